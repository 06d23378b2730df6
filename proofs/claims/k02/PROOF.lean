import PyProof.Rows.All
import Wide.All
import OpenK.AllK
import Wide.FinOn
import HandS.ForMost
import HandS.ForExc
import HandS.IsInst
import HandS.Style
import HandS.Conv
import HandS.Wide
import HandS.Walk
import HandS.Defaults
import HandS.Codes
import PyProof.ReprRoads
import HandS.DictComp
import HandS.TupLen
import HandS.Deep
import HandS.Set
import HandS.SetFor
import HandS.Strs
import HandS.More
import HandS.Iter
import PyProof.StrLawsRepr
import KE.KSortKeySt
import KE.KMinKey
import HandS.SortKw
import HandS.Nested
import HandS.EndTab
import HandS.TupLe
import HandS.HeadHook4
import HandS.Exc
import HandS.ExcOwn
import HandS.TryOnly
import HandS.TryMany
import HandS.Lambda
import KE.KStateDown
import HandS.Head0
import HandS.Head1
import HandS.Head2
import HandS.HeadEnd
import HandS.HeadHook1
import HandS.HeadHook2
import HandS.HeadHook3
import PySem.Challenge.RW_phrasedesk_k02_whole_nothing_lost
set_option Elab.async false
set_option linter.all false
set_option maxRecDepth 100000
set_option maxHeartbeats 0
/-! Phrasedesk, part 0: what every law needs over the hand layer: promises of defs that write data out as texts, a class without an __init__ of its own, rows and froms on the heap, chains. -/
namespace PD
open PySem PySem.Spec PyProof.Rows L2

/-! ### promises kept where nothing is being written out around -/
structure FnG (P : Program) (w : World) (K : PySem.W.Frag) (mg : Str → Option Value) (base : Heap) (lv : Nat) (f : Addr) (fd : FuncData) (ps : List Str) (sp : Sp) : Prop where
  many : ∀ xs G Q E, sp xs G Q E → xs.length = ps.length
  goes : ∀ (B : Around) (fr : List Env) (z : Shared) (G : Hp) (ar : Args) (us : List Value) (xs : List V) (Q : VK) (E : XK), B.guards = some [] → Room lv B →
    Env0 P w K mg base B fr z G → BindsTo z fd ar (ps.zip us) → Vals xs us → sp xs G Q E → codeAny (model P w) B (.call (.ref f) ar) (CR CX0 fr P w G z Q E) z

section
variable {P : Program} {w : World} {K : PySem.W.Frag} {mg : Str → Option Value} {base : Heap}
theorem FnG.of {lv : Nat} {f : Addr} {fd : FuncData} {ps : List Str} {sp : Sp} (F : FnOk P w K mg base CX0 lv f fd ps sp) : FnG P w K mg base lv f fd ps sp :=
  ⟨F.len, fun B fr z G ar us xs Q E _ hr e0 hb hv hs => F.run B fr z G ar us xs Q E hr e0 hb hv hs⟩
theorem FnG.up {lv m : Nat} {f : Addr} {fd : FuncData} {ps : List Str} {sp : Sp} (F : FnG P w K mg base lv f fd ps sp) (h : lv ≤ m) : FnG P w K mg base m f fd ps sp :=
  ⟨F.many, fun B fr z G ar us xs Q E hg hr => F.goes B fr z G ar us xs Q E hg (hr.mono h)⟩

/-- a def's body as a term of rules and its reading, where nothing is being written out -/
theorem okG {x qual : Str} {params : Arguments} {body : List Stmt} {scope : Scope} {dvs : List V} {kws : List (Str × V)} {f : Addr} {fd : FuncData} {N ps : List Str} {lv : Nat} {sp : Sp}
    (F : FunD K x qual params body scope dvs kws f fd) (S : FnScope N ps scope) (len : ∀ xs G Q E, sp xs G Q E → xs.length = ps.length)
    (bd : ∀ (cv : Value) (B : Around) (fr : List Env) (z : Shared) (G : Hp) (xs : List V) (Q : VK) (E : XK), (B.deeper (envOfC qual scope z.heap.objs.size f cv)).guards = some [] →
      Room lv (B.deeper (envOfC qual scope z.heap.objs.size f cv)) → sp xs G Q E →
      ∃ t, PSs (cxOf CX0 P w K mg base N qual scope f cv B fr z G E).nox body t ∧ t { nx := fun _ G' => Q .non G', rt := Q } (start N xs) G) :
    FnG P w K mg base (lv + 1) f fd ps sp := by
  obtain ⟨oc, od, dV, kV, doc, pm, an, cv, ct, sl, rfl, lk, hc, -, -⟩ := F.ex
  constructor
  · exact len
  · intro B fr z G ar us xs Q E hg hr e0 hb hv hs
    have hl := len xs G Q E hs
    have st : ∀ b o, base.get? b = some o → z.heap.get? b = some o := fun b o e => (e0.bs b o e).1
    have KZ : K.In z.heap := e0.mod.kin.keeps st
    have kinds : ∀ y ∈ ps.zip us, scope.names.lookup y.1 = some .local ∨
        (scope.names.lookup y.1 = some .cell ∧ ((cellsFrom (z.heap.objs.size + 1) scope.names []).lookup y.1).isSome = true) := by
      rintro ⟨n, v⟩ hy
      cases S.par n (List.of_mem_zip hy).1 with
      | inl q => exact .inl q
      | inr q => exact .inr ⟨q, PySem.W.cellsFrom_some _ _ _ (.inl q)⟩
    refine codeAny_call_function hr.depth (KZ _ _ lk) rfl S.co S.gen rfl (PySem.W.codeRec_of KZ hc) (hb _ _ _ _ ?_)
    refine wpAny_newFunctionEnv_cells S.kind kinds ?_
    intro env ee z1 ic
    cases ee
    refine ⟨(e0.mod.nolimit.keeps st).keeps ic.toInCall.keep, codeAny_func ?_⟩
    obtain ⟨t, ht, q⟩ := bd cv B fr z G xs Q E hg (hr.deeper _) hs
    have I : Inv (cxOf CX0 P w K mg base N qual scope f cv B fr z G E) [] (start N xs) G z1 := inv_start S hr.hd e0 hl hv ic
    refine wpAny_mono (ht.nox.run [] z1 (start N xs) G _ I q) ?_ fun e z2 h2 => h2
    intro fl z2 h2
    cases fl with
    | ret u =>
      obtain ⟨v, σ', G', J, rv, q2⟩ := h2
      exact ⟨v, G', J.os, J.bare, J.base, J.hok, rv, q2⟩
    | next =>
      obtain ⟨σ', G', J, q2⟩ := h2
      exact ⟨V.non, G', J.os, J.bare, J.base, J.hok, rfl, q2⟩
    | brk => exact h2.elim fun _ h3 => h3.elim fun _ h4 => False.elim h4.2
    | cont => exact h2.elim fun _ h3 => h3.elim fun _ h4 => False.elim h4.2
end

section
variable {X : Cx} {lv : Nat} {f : Addr} {fd : FuncData} {ps : List Str} {sp : Sp} {x : Str} {p pos : Pos} {e : Expr} {es : List Expr} {t : TA}
theorem runG {pins : List (Addr × Obj)} {σ : L2.St} {G : Hp} {z : Shared} {Q : VK} {us : List Value} {xs : List V} (F : FnG X.prog X.w X.K X.mg X.base lv f fd ps sp) (hg : X.A.guards = some []) (hr : Room lv X.A)
    (hb : Binds X.K fd ps []) (I : Inv X pins σ G z) (r : Vals xs us) (h : sp xs G Q E0) : wpAny (model X.prog X.w) X.A (call (.ref f) us) (EP X pins σ Q) X.xe z := by
  have hl : (us ++ []).length = ps.length := by
    rw [List.append_nil, ← r.length]
    exact F.many _ _ _ _ h
  have hbd := hb z us I.kIn hl
  rw [List.append_nil] at hbd
  refine wpAny_call (codeAny_mono (F.goes X.A X.stack z G ⟨us, []⟩ us xs Q E0 hg hr I.env0 hbd r h) ?_)
  intro res z2 hq
  cases res with
  | error er => exact (show False from hq).elim
  | ok fl =>
    cases fl with
    | ret u => exact I.after hq
    | next => exact (show False from hq).elim
    | brk => exact (show False from hq).elim
    | cont => exact (show False from hq).elim
/-- f(e, ..), f such a def -/
theorem pe_callG (F : FnG X.prog X.w X.K X.mg X.base lv f fd ps sp) (hgd : X.A.guards = some []) (hr : Room lv X.A) (hg : Gl X x) (hm : X.mg x = some (.ref f)) (hk : PySem.W.keepIn X.K (.ref f) = true)
    (hb : Binds X.K fd ps []) (ha : PA X (e :: es) t) (hdb : (x == ("__debug__" : Str)) = false := by decide)
    (he : starEach (e :: es) X.env = (false, eval e X.env) :: starEach es X.env := by rfl) (hpl : (backTo pos (starEach es X.env)).any (·.1) = false := by rfl) :
    PE X (.Call (.Name x p) (e :: es) [] pos) (fun σ G Q => t σ G fun xs G1 => sp xs G1 Q E0) := by
  constructor
  intro pins z σ G Q I h
  refine wpAny_Call_Name_kw (ld_glob I hg hm ?_ hdb)
  refine PySem.W.callWith_K (h₀ := X.base) I.ok.mod.kin hk (thn (ha.run pos pins z σ G _ I h) ?_) he hpl
  rintro us z1 ⟨xs, G1, I1, r, q⟩
  exact ⟨I1.kIn, runG F hgd hr hb I1 r q⟩

/-! ### str(data) -/
def rStrD (K : PySem.W.Frag) : List V → Hp → VK → Prop := fun xs G Q => ∃ (a : Addr) (d : PyData), xs = [.ref a] ∧ Dp K G (.ref a) d ∧ d.showable = true ∧ d.hasDict = false ∧
  d.depth ≤ 60 ∧ d.shown.length ≤ sizeLine ∧ Q (.str d.shown) G
theorem call_strD (hg : X.A.guards = some []) (hu : X.A.units + 64 < cLine) : CallR X (.type "str") (rStrD X.K) := by
  intro pins z σ G xs us Q I r h
  obtain ⟨a, d, rfl, dp, hs, hd, hz, hl, q⟩ := h
  obtain ⟨u, rfl, r1⟩ := vals1 r
  cases (show u = Value.ref a from r1)
  obtain ⟨as, rd⟩ := Dp.reads I d (.ref a) (.ref a) dp rfl
  refine str_of_reads rd hs (fun e => by rw [hd] at e; cases e) hg (by omega) (fun b o e => e) (fun h' u tk hk => ?_) hl
  exact ⟨.str d.shown, G, I.kept (h' := h') (t' := tk) hk, ⟨u, rfl⟩, q⟩

/-! ### C() of a class without an __init__ of its own -/
def tBare (C : Addr) : TE := fun _ G Q => ∀ y dy, G y = none → G dy = none → dy ≠ y → Q (.ref y) (upd (upd G dy (.own y)) y (.ins C dy []))
structure Bare (K : PySem.W.Frag) (C : Addr) : Prop where
  makes : PySem.W.makesIn K C = true
  init : PySem.W.findIn K (.ref C) "__init__" = some (some (.builtin "object.__init__"))
  kp : PySem.W.keepIn K (.ref C) = true
theorem pe_bare {C : Addr} (M : Bare X.K C) (hg : Gl X x) (hm : X.mg x = some (.ref C)) (hdb : (x == ("__debug__" : Str)) = false := by decide) : PE X (.Call (.Name x p) [] [] pos) (tBare C) := by
  constructor
  intro pins z σ G Q I h
  refine wpAny_Call_Name_kw (ld_glob I hg hm ?_ hdb)
  refine PySem.W.callWith_K0 I.kIn M.kp ?_
  have J := Inv.made (C := C) I
  have q := h (z.heap.objs.size + 1) z.heap.objs.size (I.hok.fresh (Nat.le_succ _)) (I.hok.fresh (Nat.le_refl _)) (Nat.ne_of_lt (Nat.lt_succ_self _))
  have Y := PySem.W.makes_of (M := model X.prog X.w) I.kIn M.makes
  refine wpAny_call (make_map0 I.kIn M.makes M.init (fun self => PySem.W.Looks.of_pure (PySem.W.oi_bind self)) ?_)
  have at1 : ((z.heap.push PySem.W.emptyDict).push (PySem.W.instObj C z.heap.objs.size)).get? (z.heap.objs.size + 1) = some (PySem.W.instObj C z.heap.objs.size) := by
    have g := Heap.get?_push_size (z.heap.push PySem.W.emptyDict) (o := PySem.W.instObj C z.heap.objs.size) rfl
    rwa [Heap.size_push] at g
  have ty : PySem.W.Looks (model X.prog X.w) ((z.heap.push PySem.W.emptyDict).push (PySem.W.instObj C z.heap.objs.size)) (typeOf (.ref (z.heap.objs.size + 1))) (.ref C) := (PySem.W.Looks.ld at1).andThen .now
  have io : PySem.W.Looks (model X.prog X.w) ((z.heap.push PySem.W.emptyDict).push (PySem.W.instObj C z.heap.objs.size)) (isInstance (.ref (z.heap.objs.size + 1)) (.type "object")) true :=
    ty.andThen (Y.top.keeps fun b o e => Heap.get?_push_of_some _ (Heap.get?_push_of_some _ e))
  refine codeAny_call_builtin PySem.W.oi_plain PySem.W.entry_oi
    (@PySem.W.check_slot (model X.prog X.w) _ _ _ "object.__init__" "object" "__init__" (.ref (z.heap.objs.size + 1)) [] [] _ PySem.W.oi_kind PySem.W.oi_split io (PySem.W.oi_args (.ref (z.heap.objs.size + 1))) ?_)
  rw [PySem.W.oi_run]
  exact wpAny_pure (And.intro rfl ⟨.ref (z.heap.objs.size + 1), _, J, rfl, q⟩)
end
/-! ### defs of the text, from the head's facts -/
section
variable {P : Program} {w : World} {K : PySem.W.Frag} {mg : Str → Option Value} {base : Heap} {x qual : Str} {st : Stmt} {f : Addr} {N ps : List Str} {k : Nat} {sp : Sp}
/-- how a def without defaults binds -/
abbrev BindOk (x qual : Str) (st : Stmt) (ps : List Str) : Prop := ∀ (kV doc pm : Value) (an : Option Addr) (cdv ct : Value) (us : List Value), us.length = ps.length →
  bindArgs (PySem.W.fnOf x qual (defArgs st) (defBody st) (defScope st) .none kV doc pm an cdv ct) ⟨us, []⟩ = pure (ps.zip us)
abbrev BodyOk (P : Program) (w : World) (K : PySem.W.Frag) (mg : Str → Option Value) (base : Heap) (qual : Str) (st : Stmt) (f : Addr) (N : List Str) (k : Nat) (sp : Sp) : Prop :=
  ∀ (cdv : Value) (A : Around) (outer : List Env) (s : Shared) (H : Hp) (vs : List V) (Q : VK) (E : XK), Room k (A.deeper (envOfC qual (defScope st) s.heap.objs.size f cdv)) → sp vs H Q E →
    ∃ t, PSs (cxOf CX0 P w K mg base N qual (defScope st) f cdv A outer s H E).nox (defBody st) t ∧ t { nx := fun _ H' => Q .non H', rt := Q } (start N vs) H
theorem fnD {fd : FuncData} (F : FunD K x qual (defArgs st) (defBody st) (defScope st) [] [] f fd) (S : FnScope N ps (defScope st)) (len : ∀ vs H Q E, sp vs H Q E → vs.length = ps.length)
    (b : BodyOk P w K mg base qual st f N k sp) : FnOk P w K mg base CX0 (k + 1) f fd ps sp := by
  refine F.ok S len ?_
  intro cdv A outer s H vs Q E hr h
  obtain ⟨t, h1, h2⟩ := b cdv A outer s H vs Q E hr h
  exact ⟨t, h1.nox, h2⟩
theorem calD (F : ∃ fd, FunD K x x (defArgs st) (defBody st) (defScope st) [] [] f fd) (hm : mg x = some (.ref f)) (hb : BindOk x x st ps) (S : FnScope N ps (defScope st)) (len : ∀ vs H Q E, sp vs H Q E → vs.length = ps.length)
    (b : BodyOk P w K mg base x st f N k sp) : C8.Cal P w K mg base (k + 1) x sp [] := by
  obtain ⟨fd, F⟩ := F
  exact ⟨f, fd, ps, [], fnD F S len b, hm, F.kp, F.bindsN hb, .nil⟩
theorem metD {C : Addr} {m : Str} (F : ∃ fd, FunD K m qual (defArgs st) (defBody st) (defScope st) [] [] f fd) (c : Cls K C) (hm : Meth K C m f) (hb : BindOk m qual st ps) (S : FnScope N ps (defScope st)) (len : ∀ vs H Q E, sp vs H Q E → vs.length = ps.length)
    (b : BodyOk P w K mg base qual st f N k sp) : C8.Met P w K mg base (k + 1) C m sp [] := by
  obtain ⟨fd, F⟩ := F
  exact ⟨f, fd, ps, [], c, hm, fnD F S len b, F.bindsN hb, .nil⟩
theorem makD {C : Addr} (F : ∃ fd, FunD K "__init__" qual (defArgs st) (defBody st) (defScope st) [] [] f fd) (M : Mk K C f) (hg : mg x = some (.ref C)) (hb : BindOk "__init__" qual st ps) (S : FnScope N ps (defScope st)) (len : ∀ vs H Q E, sp vs H Q E → vs.length = ps.length)
    (b : BodyOk P w K mg base qual st f N k sp) : C8.Mak P w K mg base (k + 1) x C sp [] := by
  obtain ⟨fd, F⟩ := F
  exact ⟨f, fd, ps, [], M, fnD F S len b, hg, F.bindsN hb, .nil⟩
/-- a def that writes data out, or calls one that does -/
structure CalG (P : Program) (w : World) (K : PySem.W.Frag) (mg : Str → Option Value) (base : Heap) (k : Nat) (x : Str) (sp : Sp) : Prop where
  ex : ∃ (f : Addr) (fd : FuncData) (ps : List Str), FnG P w K mg base k f fd ps sp ∧ mg x = some (.ref f) ∧ PySem.W.keepIn K (.ref f) = true ∧ Binds K fd ps []
theorem calG (F : ∃ fd, FunD K x x (defArgs st) (defBody st) (defScope st) [] [] f fd) (hm : mg x = some (.ref f)) (hb : BindOk x x st ps) (S : FnScope N ps (defScope st)) (len : ∀ vs H Q E, sp vs H Q E → vs.length = ps.length)
    (b : ∀ (cv : Value) (B : Around) (fr : List Env) (z : Shared) (G : Hp) (xs : List V) (Q : VK) (E : XK), (B.deeper (envOfC x (defScope st) z.heap.objs.size f cv)).guards = some [] →
      Room k (B.deeper (envOfC x (defScope st) z.heap.objs.size f cv)) → sp xs G Q E →
      ∃ t, PSs (cxOf CX0 P w K mg base N x (defScope st) f cv B fr z G E).nox (defBody st) t ∧ t { nx := fun _ G' => Q .non G', rt := Q } (start N xs) G) : CalG P w K mg base (k + 1) x sp := by
  obtain ⟨fd, F⟩ := F
  exact ⟨f, fd, ps, okG F S len b, hm, F.kp, F.bindsN hb⟩
end
section
variable {X : Cx} {k j : Nat} {sp : Sp} {x : Str} {p pos : Pos} {e : Expr} {es : List Expr} {t : TA}
theorem pe_cG (c : CalG X.prog X.w X.K X.mg X.base k x sp) (hgd : X.A.guards = some []) (hr : Room j X.A) (hk : k ≤ j) (hg : Gl X x) (ha : PA X (e :: es) t) (hdb : (x == ("__debug__" : Str)) = false := by decide)
    (he : starEach (e :: es) X.env = (false, eval e X.env) :: starEach es X.env := by rfl) (hpl : (backTo pos (starEach es X.env)).any (·.1) = false := by rfl) :
    PE X (.Call (.Name x p) (e :: es) [] pos) (fun σ G Q => t σ G fun xs G1 => sp xs G1 Q E0) := by
  obtain ⟨f, fd, ps, F, hm, kp, b⟩ := c.ex
  exact pe_callG F hgd (hr.mono hk) hg hm kp b ha hdb he hpl
theorem pe_c0 (c : C8.Cal X.prog X.w X.K X.mg X.base k x sp []) (hr : Room j X.A) (hk : k ≤ j) (hg : Gl X x) (hdb : (x == ("__debug__" : Str)) = false := by decide) :
    PE X (.Call (.Name x p) [] [] pos) (tCall sp [] E0 tNil) := by
  obtain ⟨f, fd, ps, ds, F, hm, kp, b, d⟩ := c.ex
  exact pe_call0 F (hr.mono hk) hg hm kp b d pass0 hdb
end
/-! ### instances asked by isinstance -/
structure Ins1 (K : PySem.W.Frag) (C : Addr) : Prop where
  cls : PySem.W.findIn K (.ref C) "__class__" = some (some (.builtin "object.__class__"))
  get : PySem.W.specialIn K (.builtin "object.__class__") "__get__" = some (some (.builtin "getset_descriptor.__get__"))
  tak : PySem.W.takesIn K (.builtin "object.__class__") = some true
  mro : PySem.W.mroIn K C (.type "object") = some true
theorem Ins1.ty {K : PySem.W.Frag} {C a dx : Addr} {fs : List (Str × V)} {H : Hp} (i : Ins1 K C) (c : Cls K C) (e : H a = some (.ins C dx fs)) : TyX K H (.ref a) (.ref C) := .base (.ins e c i.cls i.get i.tak i.mro)
theorem is_ty {K : PySem.W.Frag} {a b : String} {r : Bool} (h : kitB a b = some r) : PySem.W.kitOne K (.type a) (.type b) = some r := h
/-! ### heaps -/
theorem same_upd {H : Hp} {p : Addr} {o : HO} (h : H p = none) : Same H (upd H p o) := fun b x e => by
  rw [upd_ne (ne_of_none e h)]
  exact e
theorem Same.tup {K : PySem.W.Frag} {H H' : Hp} {a : Addr} {xs : List V} (e : Same H H') (h : SqT K H a xs) : SqT K H' a xs := by
  rcases h with (h | ⟨o, h⟩) | h
  · exact .inl (.inl (e _ _ h))
  · exact .inl (.inr ⟨o, e _ _ h⟩)
  · exact .inr h
/-- a change of a list that was new leaves what was -/
theorem Same.chg {H H' : Hp} {p : Addr} {o : HO} (e : Same H H') (h : H p = none) : Same H (upd H' p o) := fun b x q => by
  rw [upd_ne (ne_of_none q h)]
  exact e b x q
/-! ### rows and froms -/
abbrev Cell := Option (Int × Option Int)
def oV : Option Int → V
  | none => .non
  | some i => .int i
def CellV (H : Hp) (v : V) : Cell → Prop
  | none => v = .non
  | some (a, b) => ∃ p, v = .ref p ∧ H p = some (.tup [.int a, oV b])
theorem CellV.same {H H' : Hp} (e : Same H H') {v : V} : ∀ {c : Cell}, CellV H v c → CellV H' v c
  | none, h => h
  | some (a, b), ⟨p, h1, h2⟩ => ⟨p, h1, e _ _ h2⟩
structure Cells (H : Hp) (vs : List V) (row : List Cell) : Prop where
  len : vs.length = row.length
  each : ∀ (i : Nat) (c : Cell), row[i]? = some c → ∃ v, vs[i]? = some v ∧ CellV H v c
theorem Cells.same {H H' : Hp} (e : Same H H') {vs : List V} {row : List Cell} (h : Cells H vs row) : Cells H' vs row :=
  ⟨h.len, fun i c q => let ⟨v, h1, h2⟩ := h.each i c q; ⟨v, h1, h2.same e⟩⟩
/-- a row stands at p -/
def RowAt (H : Hp) (p : Addr) (row : List Cell) : Prop := ∃ vs, H p = some (.lst vs) ∧ Cells H vs row
theorem RowAt.same {H H' : Hp} (e : Same H H') {p : Addr} {row : List Cell} (h : RowAt H p row) : RowAt H' p row :=
  let ⟨vs, h1, h2⟩ := h; ⟨vs, e _ _ h1, h2.same e⟩
/-- a list of ints stands at p -/
def LsAt (H : Hp) (p : Addr) (ns : List Int) : Prop := H p = some (.lst (ns.map V.int))
theorem LsAt.same {H H' : Hp} (e : Same H H') {p : Addr} {ns : List Int} (h : LsAt H p ns) : LsAt H' p ns := e _ _ h
structure FrOk (fr : List Int) : Prop where
  lo : 1 ≤ fr.length
  hi : fr.length ≤ 7
  each : ∀ (i : Nat) (x : Int), fr[i]? = some x → 0 ≤ x ∧ x ≤ (i : Int)
structure RowOk (fr : List Int) (row : List Cell) : Prop where
  len : row.length = fr.length + 1
  src : ∃ a, row[0]? = some (some (a, none)) ∧ 0 ≤ a
  each : ∀ (i : Nat) (c : Cell), row[i + 1]? = some c → c = none ∨ ∃ a b, c = some (a, some b) ∧ 0 ≤ a ∧ 0 ≤ b
/-! ### chains -/
def up (fr : List Int) (t : Nat) : Nat := (fr.getD (t - 1) 0).toNat
def brk (fr : List Int) (row : List Cell) (t : Nat) : Bool := match row.getD t none, row.getD (up fr t) none with
  | some (_, b), some (a, _) => !decide (b = some a)
  | _, _ => true
def chainN (fr : List Int) (row : List Cell) : Nat → Nat → Option (List Int)
  | 0, _ => none
  | n + 1, t => if t = 0 then none else if brk fr row t then some [(t : Int)] else (chainN fr row n (up fr t)).map ((t : Int) :: ·)
def chain (fr : List Int) (row : List Cell) (t : Nat) : Option (List Int) := chainN fr row (t + 1) t
section
variable {fr : List Int} {row : List Cell}
theorem FrOk.at (h : FrOk fr) {t : Nat} (h0 : 0 < t) (h1 : t ≤ fr.length) : ∃ x : Int, fr[t - 1]? = some x ∧ 0 ≤ x ∧ x < (t : Int) ∧ x = (up fr t : Int) := by
  have hl : t - 1 < fr.length := by omega
  have e : fr[t - 1]? = some fr[t - 1] := List.getElem?_eq_getElem hl
  obtain ⟨a, b⟩ := h.each _ _ e
  refine ⟨fr[t - 1], e, a, by omega, ?_⟩
  unfold up
  rw [List.getD_eq_getElem?_getD, e, Option.getD_some]
  omega
theorem up_lt (h : FrOk fr) {t : Nat} (h0 : 0 < t) (h1 : t ≤ fr.length) : up fr t < t := by
  obtain ⟨x, _, _, b, c⟩ := h.at h0 h1
  omega
theorem chainN_more (h : FrOk fr) : ∀ (n m t : Nat), t ≤ fr.length → t < n → t < m → chainN fr row n t = chainN fr row m t := by
  intro n
  induction n with
  | zero => intro m t _ h1; omega
  | succ n ih =>
    intro m t ht h1 h2
    obtain ⟨m, rfl⟩ : ∃ k, m = k + 1 := ⟨m - 1, by omega⟩
    unfold chainN
    by_cases h0 : t = 0
    · rw [if_pos h0, if_pos h0]
    · rw [if_neg h0, if_neg h0]
      have hu := up_lt h (by omega : 0 < t) ht
      rw [ih m (up fr t) (by omega) (by omega) (by omega)]
theorem chain_zero : chain fr row 0 = none := rfl
theorem chain_step (h : FrOk fr) {t : Nat} (h0 : 0 < t) (h1 : t ≤ fr.length) : chain fr row t = if brk fr row t then some [(t : Int)] else (chain fr row (up fr t)).map ((t : Int) :: ·) := by
  have hu := up_lt h h0 h1
  show chainN fr row (t + 1) t = _
  unfold chainN
  rw [if_neg (by omega)]
  unfold chain
  rw [chainN_more h t (up fr t + 1) (up fr t) (by omega) (by omega) (by omega)]
theorem chain_mem (h : FrOk fr) : ∀ (t : Nat) (c : List Int), t ≤ fr.length → chain fr row t = some c → c ≠ [] ∧ c.length ≤ t ∧ ∀ x ∈ c, 1 ≤ x ∧ x ≤ (t : Int) := by
  intro t
  induction t using Nat.strongRecOn with
  | _ t ih =>
    intro c ht e
    by_cases h0 : t = 0
    · subst h0
      cases e
    · rw [chain_step h (by omega) ht] at e
      have hu := up_lt h (by omega : 0 < t) ht
      split at e
      · have e2 := Option.some.inj e
        subst e2
        refine ⟨by simp, by simp; omega, ?_⟩
        intro x hx
        have : x = (t : Int) := by simpa using hx
        omega
      · obtain ⟨r, e1, e2⟩ := Option.map_eq_some_iff.mp e
        obtain ⟨_, h2, h3⟩ := ih _ hu r (by omega) e1
        subst e2
        refine ⟨by simp, by simp; omega, ?_⟩
        intro x hx
        rcases List.mem_cons.mp hx with q | q
        · omega
        · have := h3 x q
          omega
end
end PD

namespace PD
open PySem PySem.Spec PyProof.Rows L2
/-! ### the law's call, from a promise that is kept where nothing is being written out -/
section
variable {P : Program} {w : World} {K : PySem.W.Frag} {mg mb : Str → Option Value} {lv : Nat} {fa a : Addr} {fd : FuncData} {x : Str} {sp : Sp} {z : Shared} {us : List Value} {ns : List Int}
/-- from one abstract heap that tracks the script alone, or nothing -/
theorem call_from {G : Hp} (KZ : K.In z.heap) (hns : z.heap.Ns mainGlobals mg) (hbn : z.heap.Ns builtinsNs mb) (hbb : ∀ y : Str, y ≠ "__name__" → mb y = bootBuiltins y) (lim : z.heap.NoLimit) (hgn : z.gens = #[])
    (obj : z.heap.get? a = some { cls := .type "list", data := .seq us.toArray }) (room : Room lv callerA) (F : ∀ base : Heap, K.In base → base.Ns mainGlobals mg → FnG P w K mg base lv fa fd [x] sp)
    (bind : ∀ (t : Shared) (u : Value), BindsTo t fd ⟨[u], []⟩ [(x, u)]) (only : Only G) (goal : sp [.ref a] G (fun v _ => v = .bl true) fun _ _ _ => False) (ok : HOk P w G z.heap)
    (at_ : ∀ b, G b ≠ none → b = a) (out : G a ≠ none → K.lookup a = none) :
    codeAny (model P w) callerA (.call (.ref fa) ⟨[.ref a], []⟩) (fun r t => r = .ok (.ret (.bool true)) ∧ OldK z.heap t.heap ∧ t.os = z.os ∧ AllBare t.gens) z := by
  have stays : ∀ {b : Addr} {o : Obj}, z.heap.get? b = some o → G b = none → (hidT z.heap G).get? b = some o := fun e n => hidT_get e n
  have untracked : ∀ {b : Addr} {o : Obj} {es : Array DictEntry} {ep : Nat}, z.heap.get? b = some o → o.data = .dict es ep → G b = none := by
    intro b o es ep e d
    cases t : G b with
    | none => rfl
    | some v =>
      have eb : b = a := at_ b (by rw [t]; simp)
      rw [eb, obj] at e
      rw [← Option.some.inj e] at d
      have d2 : Data.seq us.toArray _ = Data.dict es ep := d
      cases d2
  have nsH : ∀ {b : Addr} {m : Str → Option Value}, z.heap.Ns b m → (hidT z.heap G).Ns b m := by
    rintro b m ⟨o, es, ep, e, d, r⟩
    exact ⟨o, es, ep, stays e (untracked e d), d, r⟩
  have KH : K.In (hidT z.heap G) := by
    intro b o e
    refine stays (KZ b o e) ?_
    cases t : G b with
    | none => rfl
    | some v =>
      have eb : b = a := at_ b (by rw [t]; simp)
      rw [eb] at e t
      rw [out (by rw [t]; simp)] at e
      cases e
  have md : Mod K mg (hidT z.heap G) := by
    obtain ⟨mc, h1, h2⟩ := lim
    exact ⟨KH, nsH hns, ⟨mb, nsH hbn, hbb⟩, ⟨mc, nsH h1, h2⟩⟩
  have e0 : Env0 P w K mg (hidT z.heap G) callerA [] z G := by
    refine ⟨rfl, md, fun b o e => of_hidT e, Nat.le_of_eq (hidT_size _ _), trivial, ?_, ok, .of_eq hgn⟩
    intro b hb
    exact absurd (show b ∈ ([] : List Addr) from hb) (by simp)
  have run := (F _ KH (nsH hns)).goes callerA [] z G ⟨[.ref a], []⟩ [.ref a] [.ref a] _ _ rfl room e0 (bind z (.ref a)) (.cons rfl .nil) goal
  refine codeAny_mono run ?_
  intro r t h
  cases r with
  | error er => exact (show False from h).elim
  | ok fl =>
    cases fl with
    | next => exact (show False from h).elim
    | brk => exact (show False from h).elim
    | cont => exact (show False from h).elim
    | ret u =>
      obtain ⟨v, G', os, bare, un, ok', rv, qv⟩ := h
      cases (show v = .bl true from qv)
      cases (show u = Value.bool true from rv)
      refine ⟨rfl, OldK.of_keep ?_, os, bare⟩
      intro b o e
      cases t2 : G b with
      | none => exact un.keep b o e t2 (fun m => absurd (show b ∈ ([] : List Addr) from m) (by simp)) (by simp)
      | some v =>
        rcases only b with n | ⟨ob, xs, n⟩
        · rw [t2] at n
          cases n
        · obtain ⟨q1, _⟩ := ok b _ n
          obtain ⟨q2, _⟩ := ok' b _ (un.frzs b ob _ n)
          rw [e] at q1
          rw [Option.some.inj q1]
          exact q2
theorem call_goes (KZ : K.In z.heap) (hns : z.heap.Ns mainGlobals mg) (hbn : z.heap.Ns builtinsNs mb) (hbb : ∀ y : Str, y ≠ "__name__" → mb y = bootBuiltins y) (lim : z.heap.NoLimit) (hgn : z.gens = #[])
    (obj : z.heap.get? a = some { cls := .type "list", data := .seq us.toArray }) (isn : IntsAre us ns) (small : ns.length ≤ sizeLine) (room : Room lv callerA) (F : ∀ base : Heap, K.In base → base.Ns mainGlobals mg → FnG P w K mg base lv fa fd [x] sp)
    (bind : ∀ (t : Shared) (u : Value), BindsTo t fd ⟨[u], []⟩ [(x, u)]) (goal : ∀ G : Hp, Only G → SqL K G a (ns.map V.int) → sp [.ref a] G (fun v _ => v = .bl true) fun _ _ _ => False) :
    codeAny (model P w) callerA (.call (.ref fa) ⟨[.ref a], []⟩) (fun r t => r = .ok (.ret (.bool true)) ∧ OldK z.heap t.heap ∧ t.os = z.os ∧ AllBare t.gens) z := by
  have rv := vals_ints isn
  have len := isn.length
  cases inK : K.lookup a with
  | some o =>
    have e := KZ a o inK
    rw [obj] at e
    have eo := Option.some.inj e
    subst eo
    have none1 : Only (fun _ => none) := fun _ => .inl rfl
    have sq : SqL K (fun _ => none) a (ns.map V.int) := .inr ⟨_, us.toArray, _, inK, rfl, rfl, rfl, by rw [List.size_toArray, len]; exact small, by simpa using rv⟩
    refine call_from (G := fun _ => none) KZ hns hbn hbb lim hgn obj room F bind none1 (goal _ none1 sq) ?_ (fun b n => absurd rfl n) fun n => absurd rfl n
    intro b u n
    have n2 : (none : Option HO) = some u := n
    cases n2
  | none =>
    let G : Hp := fun b => if b = a then some (.frz { cls := .type "list", data := .seq us.toArray } (.lst (ns.map V.int))) else none
    have at1 : G a = some (.frz { cls := .type "list", data := .seq us.toArray } (.lst (ns.map V.int))) := if_pos rfl
    have el : ∀ b, b ≠ a → G b = none := fun b n => if_neg n
    have only : Only G := by
      intro b
      by_cases h : b = a
      · rw [h]
        exact .inr ⟨_, _, at1⟩
      · exact .inl (el b h)
    refine call_from (G := G) KZ hns hbn hbb lim hgn obj room F bind only (goal G only (.inl (.inr ⟨_, at1⟩))) ?_ ?_ fun _ => inK
    · intro b u n
      by_cases h : b = a
      · rw [h, at1] at n
        rw [← Option.some.inj n, h]
        exact ⟨obj, by rw [List.length_map]; exact small, us, _, rv, obj⟩
      · rw [el b h] at n
        cases n
    · intro b n
      by_cases h : b = a
      · exact h
      · exact absurd (el b h) n
end
/-- the head's last goal, from the law's promise -/
theorem walkG {l : PySem.W.OpenLaw} {n lv : Nat} {q : Program} {loose : List Str} {XP : (Str → Option Value) → Heap → Prop} {YP : World → Heap → Prop} {d : DefRec} {x : Str} (most : l.most = some n) (small : n ≤ sizeLine) (nodef : d.params.defaults = []) (room : Room lv callerA)
    (F : ∀ (w : World) (mg : Str → Option Value) (fa : Addr) (h : Heap), YP w h → h.Ns mainGlobals mg → mg d.name = some (.ref fa) → ∃ (K : PySem.W.Frag) (fd : FuncData) (sp : Sp), K.In h ∧ (∀ (t : Shared) (u : Value), BindsTo t fd ⟨[u], []⟩ [(x, u)]) ∧
      (∀ (G : Hp) (a : Addr) (ns : List Int), ns.length ≤ n → Only G → SqL K G a (ns.map V.int) → sp [.ref a] G (fun v _ => v = .bl true) fun _ _ _ => False) ∧ ∀ base : Heap, K.In base → base.Ns mainGlobals mg → FnG l.prog w K mg base lv fa fd [x] sp) :
    PySem.W.WalkO q loose XP YP l.row.toRowW d [] (fun f vs => PySem.call f vs) := by
  refine Att.attach_call most nodef ?_
  intro w z0 z mg mb fa o pm cd doc a us ns G Y ho hd hcd hmg obj isn len gens
  obtain ⟨K, fd, sp, KZ, bind, goal, hF⟩ := F w mg fa _ Y G.T.g hmg
  exact call_goes KZ G.T.g G.T.b G.T.builtins G.T.nolimit gens obj isn (Nat.le_trans len small) room hF bind fun G' h1 h2 => goal G' a ns len h1 h2
end PD

namespace PD
open PySem PySem.Spec PyProof.Rows L2
/-! ### data: lists of ints, rows -/
def dI (ns : List Int) : PyData := .list (ns.map .int)
section
variable {K : PySem.W.Frag} {H : Hp}
theorem dpa_ints : ∀ ns : List Int, DpAll K H (ns.map V.int) (ns.map PyData.int)
  | [] => .nil
  | n :: ns => .cons (.int n) (dpa_ints ns)
theorem dp_ints {a : Addr} {ns : List Int} (h : LsAt H a ns) : Dp K H (.ref a) (dI ns) := .lst (SqL.of h) (dpa_ints ns)
theorem lay_ints : ∀ ns : List Int, PyData.canLayAll0 (ns.map PyData.int) = true
  | [] => rfl
  | n :: ns => by
    rw [List.map_cons]
    simp only [PyData.canLayAll0, PyData.canLay0, Bool.true_and]
    exact lay_ints ns
theorem depth_ints : ∀ ns : List Int, PyData.depthAll (ns.map PyData.int) = 0
  | [] => rfl
  | n :: ns => by
    rw [List.map_cons]
    simp only [PyData.depthAll, PyData.depth, depth_ints ns, Nat.max_self]
theorem shaped_ints (ns : List Int) : SeqAt.shaped (dI ns) = true := by
  unfold SeqAt.shaped dI
  simp only [PyData.canLay0, PyData.depth, lay_ints, depth_ints]
  rfl
theorem eqva_ints : ∀ ns ms : List Int, PyData.eqvAll (ns.map PyData.int) (ms.map PyData.int) = decide (ns = ms)
  | [], [] => rfl
  | [], m :: ms => rfl
  | n :: ns, [] => rfl
  | n :: ns, m :: ms => by
    rw [List.map_cons, List.map_cons]
    simp only [PyData.eqvAll, PyData.eqv, eqva_ints ns ms]
    by_cases h1 : n = m
    · by_cases h2 : ns = ms
      · simp [h1, h2]
      · simp [h1, h2]
    · simp [h1]
theorem eqv_ints (ns ms : List Int) : PyData.eqv (dI ns) (dI ms) = decide (ns = ms) := by
  unfold dI
  simp only [PyData.eqv, eqva_ints]
def dO : Option Int → PyData
  | none => .none
  | some i => .int i
def dC : Cell → PyData
  | none => .none
  | some (a, b) => .tuple [.int a, dO b]
theorem dp_o : ∀ b : Option Int, Dp K H (oV b) (dO b)
  | none => .non
  | some i => .int i
theorem dp_cell {v : V} : ∀ {c : Cell}, CellV H v c → Dp K H v (dC c)
  | none, h => by
    cases (show v = .non from h)
    exact .non
  | some (a, b), ⟨p, e, h⟩ => by
    subst e
    exact .tup (SqT.of h) (.cons (.int a) (.cons (dp_o b) .nil))
theorem dpa_cells : ∀ {vs : List V} {row : List Cell}, Cells H vs row → DpAll K H vs (row.map dC)
  | [], [], _ => .nil
  | [], _ :: _, h => by
    have := h.len
    simp at this
  | _ :: _, [], h => by
    have := h.len
    simp at this
  | v :: vs, c :: row, h => by
    obtain ⟨u, e1, e2⟩ := h.each 0 c rfl
    cases (Option.some.inj e1)
    have h' : Cells H vs row := ⟨by have := h.len; simpa using this, fun i d e => h.each (i + 1) d e⟩
    exact .cons (dp_cell e2) (dpa_cells h')
def dRow (row : List Cell) : PyData := .list (row.map dC)
theorem dp_row {p : Addr} {row : List Cell} (h : RowAt H p row) : Dp K H (.ref p) (dRow row) := by
  obtain ⟨vs, h1, h2⟩ := h
  exact .lst (SqL.of h1) (dpa_cells h2)
theorem lay_cell : ∀ c : Cell, (dC c).canLay0 = true
  | none => rfl
  | some (a, none) => rfl
  | some (a, some b) => rfl
theorem lay_cells : ∀ row : List Cell, PyData.canLayAll0 (row.map dC) = true
  | [] => rfl
  | c :: row => by
    rw [List.map_cons]
    simp only [PyData.canLayAll0, lay_cell c, Bool.true_and]
    exact lay_cells row
theorem depth_cell : ∀ c : Cell, (dC c).depth ≤ 1
  | none => by decide
  | some (a, none) => by simp [dC, dO, PyData.depth, PyData.depthAll]
  | some (a, some b) => by simp [dC, dO, PyData.depth, PyData.depthAll]
theorem depth_cells : ∀ row : List Cell, PyData.depthAll (row.map dC) ≤ 1
  | [] => by simp [PyData.depthAll]
  | c :: row => by
    rw [List.map_cons]
    simp only [PyData.depthAll]
    have := depth_cell c
    have := depth_cells row
    omega
end
/-! ### digits -/
def isDig (c : Nat) : Bool := decide (48 ≤ c) && decide (c ≤ 57)
theorem str_digit : ∀ n : Int, 0 ≤ n → n ≤ 9 → (Str.ofString (toString n)).cps.toList = [48 + n.toNat] := by
  intro n h0 h9
  have h : n = 0 ∨ n = 1 ∨ n = 2 ∨ n = 3 ∨ n = 4 ∨ n = 5 ∨ n = 6 ∨ n = 7 ∨ n = 8 ∨ n = 9 := by omega
  rcases h with rfl | rfl | rfl | rfl | rfl | rfl | rfl | rfl | rfl | rfl <;> decide +kernel
theorem shownAll_map : ∀ ns : List Int, PyData.shownAll (ns.map PyData.int) = ns.map fun n => Str.ofString (toString n)
  | [] => rfl
  | n :: ns => by
    rw [List.map_cons, List.map_cons]
    simp only [PyData.shownAll, PyData.shown, shownAll_map ns]
theorem text_digits : ∀ (ns : List Int) (k : Nat) (acc : Str), (∀ n ∈ ns, 0 ≤ n ∧ n ≤ 9) →
    ((textFrom k acc (ns.map fun n => Str.ofString (toString n))).cps.toList).filter isDig = (acc.cps.toList).filter isDig ++ ns.map fun n => 48 + n.toNat
  | [], k, acc, _ => by simp [textFrom]
  | n :: ns, k, acc, h => by
    rw [List.map_cons, List.map_cons]
    show ((textFrom (k + 1) (acc ++ (if k > 0 then ", " else "" : String) ++ Str.ofString (toString n)) (ns.map fun n => Str.ofString (toString n))).cps.toList).filter isDig = _
    rw [text_digits ns _ _ fun m hm => h m (List.mem_cons_of_mem _ hm)]
    obtain ⟨h0, h9⟩ := h n List.mem_cons_self
    have e1 : (Str.ofString (toString n)).cps.toList = [48 + n.toNat] := str_digit n h0 h9
    have e2 : (((if k > 0 then ", " else "" : String) : Str)).cps.toList.filter isDig = [] := by
      split <;> decide +kernel
    have e3 : isDig (48 + n.toNat) = true := by
      unfold isDig
      rw [decide_eq_true (by omega), decide_eq_true (by omega)]
      rfl
    rw [Str.cps_append, Str.cps_append, Array.toList_append, Array.toList_append, List.filter_append, List.filter_append, e1, e2]
    simp [e3]
theorem shown_digits {ns : List Int} (h : ∀ n ∈ ns, 0 ≤ n ∧ n ≤ 9) : ((dI ns).shown.cps.toList).filter isDig = ns.map fun n => 48 + n.toNat := by
  have e : (dI ns).shown = textFrom 0 "[" (ns.map fun n => Str.ofString (toString n)) ++ "]" := by
    unfold dI
    simp only [PyData.shown, shownAll_map]
    rfl
  have e2 : ((("]" : String) : Str)).cps.toList.filter isDig = [] := by decide +kernel
  have e3 : ((("[" : String) : Str)).cps.toList.filter isDig = [] := by decide +kernel
  rw [e, Str.cps_append, Array.toList_append, List.filter_append, text_digits ns 0 _ h, e2, e3]
  simp
theorem map_inj : ∀ {ns ms : List Int}, (∀ n ∈ ns, 0 ≤ n ∧ n ≤ 9) → (∀ n ∈ ms, 0 ≤ n ∧ n ≤ 9) → (ns.map fun n => 48 + n.toNat) = (ms.map fun n => 48 + n.toNat) → ns = ms
  | [], [], _, _, _ => rfl
  | [], _ :: _, _, _, e => by simp at e
  | _ :: _, [], _, _, e => by simp at e
  | n :: ns, m :: ms, h1, h2, e => by
    rw [List.map_cons, List.map_cons] at e
    injection e with e1 e2
    have a := h1 n List.mem_cons_self
    have b := h2 m List.mem_cons_self
    have r := map_inj (fun x hx => h1 x (List.mem_cons_of_mem _ hx)) (fun x hx => h2 x (List.mem_cons_of_mem _ hx)) e2
    have : n = m := by omega
    rw [this, r]
theorem shown_inj {ns ms : List Int} (h1 : ∀ n ∈ ns, 0 ≤ n ∧ n ≤ 9) (h2 : ∀ n ∈ ms, 0 ≤ n ∧ n ≤ 9) : decide ((dI ns).shown = (dI ms).shown) = decide (ns = ms) := by
  by_cases h : ns = ms
  · rw [h, decide_eq_true rfl, decide_eq_true rfl]
  · have h3 : ¬ (dI ns).shown = (dI ms).shown := fun e => h (map_inj h1 h2 (by rw [← shown_digits h1, ← shown_digits h2, e]))
    rw [decide_eq_false h, decide_eq_false h3]
theorem text_len : ∀ (ns : List Int) (k : Nat) (acc : Str), (∀ n ∈ ns, 0 ≤ n ∧ n ≤ 9) → (textFrom k acc (ns.map fun n => Str.ofString (toString n))).length ≤ acc.length + 3 * ns.length
  | [], k, acc, _ => by simp [textFrom]
  | n :: ns, k, acc, h => by
    rw [List.map_cons]
    show (textFrom (k + 1) (acc ++ (if k > 0 then ", " else "" : String) ++ Str.ofString (toString n)) (ns.map fun n => Str.ofString (toString n))).length ≤ _
    have i := text_len ns (k + 1) (acc ++ (if k > 0 then ", " else "" : String) ++ Str.ofString (toString n)) fun m hm => h m (List.mem_cons_of_mem _ hm)
    obtain ⟨h0, h9⟩ := h n List.mem_cons_self
    have e1 : (Str.ofString (toString n)).length = 1 := by
      show (Str.ofString (toString n)).cps.size = 1
      rw [← Array.length_toList, str_digit n h0 h9]
      rfl
    have e2 : (((if k > 0 then ", " else "" : String) : Str)).length ≤ 2 := by
      split <;> decide +kernel
    rw [strLen_append, strLen_append, e1] at i
    rw [List.length_cons]
    omega
theorem shown_len {ns : List Int} (h : ∀ n ∈ ns, 0 ≤ n ∧ n ≤ 9) (hl : ns.length ≤ 1000) : (dI ns).shown.length ≤ sizeLine := by
  have e : (dI ns).shown = textFrom 0 "[" (ns.map fun n => Str.ofString (toString n)) ++ "]" := by
    unfold dI
    simp only [PyData.shown, shownAll_map]
    rfl
  have e1 := text_len ns 0 "[" h
  have e2 : ((("[" : String) : Str)).length = 1 := rfl
  have e3 : ((("]" : String) : Str)).length = 1 := rfl
  rw [e, strLen_append]
  have : (3002 : Nat) ≤ sizeLine := by decide
  omega
theorem show_ints : ∀ {ns : List Int}, (∀ n ∈ ns, 0 ≤ n ∧ n ≤ 9) → PyData.showableAll (ns.map PyData.int) = true
  | [], _ => rfl
  | n :: ns, h => by
    rw [List.map_cons]
    obtain ⟨h0, h9⟩ := h n List.mem_cons_self
    have e : n.natAbs.log2 < 1920 := by
      have h1 : n.natAbs < 2 ^ 4 := by omega
      have := PySem.Flt.log2_lt_of (by decide : 0 < 4) h1
      omega
    simp only [PyData.showableAll, PyData.showable, decide_eq_true e, Bool.true_and]
    exact show_ints fun m hm => h m (List.mem_cons_of_mem _ hm)
theorem nodict_ints (ns : List Int) : (dI ns).hasDict = false := PyData.hasDict_of_canLay _ (by unfold dI; simp only [PyData.canLay0, lay_ints])
end PD

namespace PD
open PySem PySem.Spec PyProof.Rows L2
/-! ### a dict comprehension whose keys are tuples -/
theorem put_tup {X : Cx} {pins : List (Addr × Obj)} {σ : L2.St} {G : Hp} {z : Shared} {E : Value → Shared → Prop} {d b : Addr} {kvs : List (List Key × V)} {k : List Key} {v : V} {r : Value} {Q : Unit → Shared → Prop} (hu : X.A.units < cLine)
    (I : Inv X pins σ G z) (hd : G d = some (.dT kvs)) (hb : G b = some (.tup (k.map kV))) (hz : kvs.length < sizeLine) (rv : RelV v r) (h : ∀ z', Inv X pins σ (upd G d (.dT (putK kvs k v))) z' → Q () z') :
    wpAny (model X.prog X.w) X.A (dictSet d (.ref b) r) Q E z := by
  obtain ⟨y, ns, xs, rel, dd⟩ := dt_of I.hok hd
  have few : xs.length ≤ sizeLine := by
    rw [← Paired.length rel]
    exact y
  have more : (putK kvs k v).length ≤ sizeLine := by
    have := length_putK kvs k v
    omega
  refine wpAny_dictSet_heap (hsz := few) hu (key_of I.hok hb) dd ?_
  intro h' dd' hs
  obtain ⟨q, es, ep, hq, h2, h3, h4, -, h5⟩ := dd'
  refine h _ (d_write I (by rw [hd]; exact True.intro) hs ⟨q, hq⟩ ⟨more, ns, _, (rel.put k hb rv).keeps ?_, q, es, ep, hq, h2, h3, h4, h5⟩)
  intro c ys ec
  rw [upd_ne (ne_of ec hd (fun t => nomatch t))]
  exact ec
section
variable {X : Cx}
def tDcT (wi : TI) (g : TG) (tt : TT) (tk tv : TE) (vs : List Nat) : TE := fun σ G Q => wi σ G fun J G1 => ∀ D, G1 D = none → ∃ W : Nat → Nat → Hp → Prop, (∃ m, W 0 m (upd G1 D (.dT []))) ∧
  ∀ i m G, W i m G → (J.stop i G ∧ Q (.ref D) G) ∨ (J.go i G ∧ ∃ Nx : Hp → Prop, (∀ G', Nx G' → ∃ m', m' < m ∧ W (i + 1) m' G') ∧
    ∀ x G', J.yld i G x G' → g x (wipe σ vs) G' fun σ2 G2 => wipe σ2 vs = wipe σ vs ∧ tt σ2 G2 fun b G3 =>
      if b = true then tk σ2 G3 fun y G4 => tv σ2 G4 fun u G5 => ∃ kvs k q, y = .ref q ∧ G5 q = some (.tup (k.map kV)) ∧ G5 D = some (.dT kvs) ∧ kvs.length < sizeLine ∧ Nx (upd G5 D (.dT (putK kvs k u))) else Nx G3)
theorem dcT_core {pins : List (Addr × Obj)} {z : Shared} {σ : L2.St} {G : Hp} {Q : VK} {kx vx tg iter : Expr} {ifs : List Expr} {scope : Scope} {own : List (Str × Nat)} {pos pos' : Pos} {wi : TI} {g : TG} {tt : TT} {tk tv : TE} {use : Option (Value → Sem Unit)} {Qf : Value → Shared → Prop}
    (hu : X.A.units < cLine) (hc : X.calm = true) (hN : X.N.Nodup) (I : Inv X pins σ G z) (hi : PI X tg iter wi) (ok : BlkOk X.N X.env.scope scope own)
    (hg : ∀ (z : Shared) (G : Hp) (C : Addr) (cl : List (Str × Addr)) (fp : List Addr), PG (X.blk z G scope (compEnvC scope cl C X.env) fp) tg g)
    (ht : ∀ (z : Shared) (G : Hp) (C : Addr) (cl : List (Str × Addr)) (fp : List Addr), PTs (X.blk z G scope (compEnvC scope cl C X.env) fp) ifs tt)
    (hk : ∀ (z : Shared) (G : Hp) (C : Addr) (cl : List (Str × Addr)) (fp : List Addr), PE (X.blk z G scope (compEnvC scope cl C X.env) fp) kx tk)
    (hv : ∀ (z : Shared) (G : Hp) (C : Addr) (cl : List (Str × Addr)) (fp : List Addr), PE (X.blk z G scope (compEnvC scope cl C X.env) fp) vx tv)
    (hs : ∀ x, foldedSetIterable iter X.env x = pure x) (h : tDcT wi g tt tk tv (own.map (·.2)) σ G Q)
    (last : ∀ D C z' m G', Inv X pins σ G' z' → Q (.ref D) G' → z'.heap.Ns C m → FpOk X pins G' C → compPost (model X.prog X.w) X.A X.xe use Qf (.ref D) C (.ok .next) z') :
    wpAny (model X.prog X.w) X.A (comprehension (.DictComp kx vx [⟨tg, iter, ifs, 0⟩] scope pos) scope X.env pos' newDict false (eval iter X.env) use) Qf X.xe z := by
  have clo : ∀ y ∈ scope.names, y.2 = .free → ∃ c, X.env.cells.lookup y.1 = some c := by
    intro y hy e
    exact I.ok.has _ (ok.free y hy e)
  refine wpAny_comprehension_free (use := use) rfl hs (closure_ok clo) ok.kind (fun y hy e => by rw [ok.uniq y hy, e]) (thn (hi.run pins z σ G _ I h) fun xv z1 hx => thn hx ?_)
  rintro itv z2 ⟨it, fp, tn, J, G2, rfl, I2, T, st2, f2, q⟩
  refine wpAny_newObj_type (newEnv_comp ?_)
  generalize eD : z2.heap.objs.size = D
  obtain ⟨W, ⟨m0, w0⟩, turn⟩ := q D (I2.hok.fresh (Nat.le_of_eq eD))
  generalize ez3 : ({ z2 with heap := z2.heap.push { cls := .type "dict", data := .dict #[] } } : Shared) = z3
  have e3 : z3.heap = z2.heap.push { cls := .type "dict", data := .dict #[] } := by rw [← ez3]
  have I3 : Inv X pins σ (upd G2 D (.dT [])) z3 := by
    rw [← ez3]
    refine I2.laid (t' := z2.toks) (fun b o e => Heap.get?_push_of_some _ e) (Nat.le_of_eq eD) ?_
    rw [← eD]
    exact dt_empty z2.heap I2.big
  have lt2 : ∀ b ∈ fp, b < z2.heap.objs.size := by
    intro b hb
    obtain ⟨o, e, _⟩ := T.obj _ _ st2 b hb
    exact Heap.lt_size e
  have f3 : ∀ b ∈ fp, FpOk X pins (upd G2 D (.dT [])) b ∧ b < z3.heap.objs.size := by
    intro b hb
    have lt := lt2 b hb
    constructor
    · refine ⟨?_, (f2 b hb).2⟩
      rw [upd_ne (by rw [← eD]; exact Nat.ne_of_lt lt)]
      exact (f2 b hb).1
    · rw [e3, Heap.size_push]
      exact Nat.lt_succ_of_lt lt
  have st3 : tn 0 z3.heap := T.keep _ _ _ st2 (by intro b _ o e; rw [e3]; exact Heap.get?_push_of_some _ e)
  have I4 := block_start I3 ok hN f3
  have pg := hg z3 (upd G2 D (.dT [])) z3.heap.objs.size (cellsFrom (z3.heap.objs.size + 1) scope.names (cloFrom X.env.cells scope.names [])) fp
  have pt := ht z3 (upd G2 D (.dT [])) z3.heap.objs.size (cellsFrom (z3.heap.objs.size + 1) scope.names (cloFrom X.env.cells scope.names [])) fp
  have pk := hk z3 (upd G2 D (.dT [])) z3.heap.objs.size (cellsFrom (z3.heap.objs.size + 1) scope.names (cloFrom X.env.cells scope.names [])) fp
  have pw := hv z3 (upd G2 D (.dT [])) z3.heap.objs.size (cellsFrom (z3.heap.objs.size + 1) scope.names (cloFrom X.env.cells scope.names [])) fp
  have nfp : ∀ b ∈ fp, (upd G2 D (.dT [])) b = none := fun b hb => (f3 b hb).1.1
  refine (?_ : codeAny _ _ (.compStart (.DictComp kx vx [⟨tg, iter, ifs, 0⟩] scope pos) 0 (.ref it) (.ref D) (compEnvC scope (cellsFrom (z3.heap.objs.size + 1) scope.names (cloFrom X.env.cells scope.names [])) z3.heap.objs.size X.env)) _ { z3 with heap := pushCells (z3.heap.push { cls := .type "dict", data := .dict #[] }) scope.names })
  generalize ece : compEnvC scope (cellsFrom (z3.heap.objs.size + 1) scope.names (cloFrom X.env.cells scope.names [])) z3.heap.objs.size X.env = ce at I4 pg pt pk pw ⊢
  have cl : ce.locals = z3.heap.objs.size := by
    subst ece
    rfl
  generalize eG3 : upd G2 D (.dT []) = G3 at I3 I4 pg pt pk pw w0 nfp f3
  generalize ez4 : ({ z3 with heap := pushCells (z3.heap.push { cls := .type "dict", data := .dict #[] }) scope.names } : Shared) = z4 at I4 ⊢
  have st4 : tn 0 z4.heap := T.keep _ _ _ st3 (by intro b _ o e; rw [← ez4]; exact pushCells_keeps _ _ _ _ (Heap.get?_push_of_some _ e))
  have stat : ∀ {σ' : L2.St} {G' : Hp} {z' : Shared}, Inv (X.blk z3 G3 scope ce fp) [] σ' G' z' → (∀ b ∈ fp, G' b = none) → ∀ b ∈ fp, FpOk (X.blk z3 G3 scope ce fp) [] G' b := by
    intro σ' G' z' J' hn b hb
    exact ⟨hn b hb, (J'.ok.exf b hb).1, J'.ok.exfs b hb, .inl hb, fun x c e => (J'.ok.exf b hb).2 x c e, fun p hp => absurd (show p ∈ ([] : List (Addr × Obj)) ++ [] from hp) (by simp)⟩
  have loop : codeAny (model X.prog X.w) X.A (.compLoop (.DictComp kx vx [⟨tg, iter, ifs, 0⟩] scope pos) 0 (.ref it) (.ref D) ce) (compPost (model X.prog X.w) X.A X.xe use Qf (.ref D) z3.heap.objs.size) z4 := by
    refine compLoop_anyD (fun n z' => ∃ i G', Inv (X.blk z3 G3 scope ce fp) [] (wipe σ (own.map (·.2))) G' z' ∧ tn i z'.heap ∧ (∀ b ∈ fp, G' b = none) ∧ W i n G') ?_ m0 ⟨0, G3, I4, st4, nfp, w0⟩
    rintro n z5 ⟨i, G5, I5, st5, n5, w5⟩
    rcases turn i n G5 w5 with ⟨stop, qq⟩ | ⟨go, Nx, hNx, step⟩
    · refine thnF (T.done (X.blk z3 G3 scope ce fp) rfl rfl rfl hc i [] z5 _ G5 (fun _ _ => False) I5 (stat I5 n5) st5 stop) ?_
      rintro r z6 ⟨rfl, I6⟩
      have I7 : Inv X pins σ G5 z6 := I3.call' (ch := fp) I6.os I6.base I6.hok I6.bare fun b hb => let y := (f3 b hb).1.2; ⟨y.2.2.1, y.1, y.2.2.2.1, y.2.2.2.2⟩
      have nC : G5 z3.heap.objs.size = none := by
        have t : G5 ce.locals = none := I6.free
        rwa [cl] at t
      obtain ⟨m, hn, _⟩ := I6.loc
      have hn2 : z6.heap.Ns ce.locals m := hn
      rw [cl] at hn2
      exact last D z3.heap.objs.size z6 m G5 I7 qq hn2 (I3.fpOk (Nat.le_refl _) nC)
    · refine thnF (T.item (X.blk z3 G3 scope ce fp) rfl rfl rfl hc i [] z5 _ G5 (fun _ _ => False) I5 (stat I5 n5) st5 go) ?_
      rintro r z6 ⟨u, rfl, h6⟩
      refine thnF h6 ?_
      rintro _ z7 ⟨x, G7, I7, r7, y7, st7, n7⟩
      refine thnF (pg.run _ z7 _ G7 x u _ (I7.pinned (stat I7 n7) (T.obj _ _ st7)) r7 (step x G7 y7)) ?_
      rintro _ z8 ⟨σ8, G8, I8, hw8, q8⟩
      refine thnF (pt.run _ z8 σ8 G8 _ I8 q8) ?_
      rintro b z9 ⟨G9, I9, q9⟩
      have fin : ∀ {z' : Shared} {G' : Hp}, Inv (X.blk z3 G3 scope ce fp) ([] ++ pinsAt fp z7.heap) σ8 G' z' → Nx G' →
          ∃ m, m < n ∧ ∃ i G', Inv (X.blk z3 G3 scope ce fp) [] (wipe σ (own.map (·.2))) G' z' ∧ tn i z'.heap ∧ (∀ b ∈ fp, G' b = none) ∧ W i m G' := by
        intro z' G' J' nx
        obtain ⟨m', hm, w'⟩ := hNx G' nx
        have kept : ∀ b ∈ fp, ∀ o, z7.heap.get? b = some o → z'.heap.get? b = some o ∧ G' b = none := by
          intro b hb o e
          have y := J'.pin (b, o) (List.mem_append_right _ (List.mem_append_right _ (mem_pinsAt hb e)))
          exact ⟨y.1, y.2.1⟩
        have hl : (wipe σ (own.map (·.2))).length = σ8.length := by
          rw [← hw8, wipe_length]
        refine ⟨m', hm, i + 1, G', (J'.unpinned (pins := [])).weak hl ?_, T.keep _ _ _ st7 (fun b hb o e => (kept b hb o e).1), ?_, w'⟩
        · intro j v e
          rw [← hw8] at e
          exact (wipe_some e).1
        · intro b hb
          obtain ⟨o, e, _⟩ := T.obj _ _ st7 b hb
          exact (kept b hb o e).2
      cases b with
      | false => exact fin I9 q9
      | true =>
        refine thnF (pk.run _ z9 σ8 G9 _ I9 q9) ?_
        rintro kv z10 ⟨yk, G10, I10, r10, q10⟩
        refine thnF (pw.run _ z10 σ8 G10 _ I10 q10) ?_
        rintro vv z11 ⟨yv, G11, I11, r11, kvs, k, b, rfl, hb, hD, hz, nx⟩
        cases (show kv = Value.ref b from r10)
        exact put_tup (X := X.blk z3 G3 scope ce fp) hu I11 hD hb hz r11 fun z12 I12 => fin I12 nx
  exact codeAny_compStart_dict loop (T.self X.A 0 _ _ _ st4 loop)
theorem pe_dcT {kx vx tg iter : Expr} {ifs : List Expr} {scope : Scope} {own : List (Str × Nat)} {pos : Pos} {wi : TI} {g : TG} {tt : TT} {tk tv : TE} (hu : X.A.units < cLine) (hc : X.calm = true) (hN : X.N.Nodup) (hi : PI X tg iter wi) (ok : BlkOk X.N X.env.scope scope own)
    (hg : ∀ (z : Shared) (G : Hp) (C : Addr) (cl : List (Str × Addr)) (fp : List Addr), PG (X.blk z G scope (compEnvC scope cl C X.env) fp) tg g)
    (ht : ∀ (z : Shared) (G : Hp) (C : Addr) (cl : List (Str × Addr)) (fp : List Addr), PTs (X.blk z G scope (compEnvC scope cl C X.env) fp) ifs tt)
    (hk : ∀ (z : Shared) (G : Hp) (C : Addr) (cl : List (Str × Addr)) (fp : List Addr), PE (X.blk z G scope (compEnvC scope cl C X.env) fp) kx tk)
    (hv : ∀ (z : Shared) (G : Hp) (C : Addr) (cl : List (Str × Addr)) (fp : List Addr), PE (X.blk z G scope (compEnvC scope cl C X.env) fp) vx tv)
    (hs : ∀ x, foldedSetIterable iter X.env x = pure x := by intro _; rfl) : PE X (.DictComp kx vx [⟨tg, iter, ifs, 0⟩] scope pos) (tDcT wi g tt tk tv (own.map (·.2))) := by
  constructor
  intro pins z σ G Q I h
  rw [arm_eval_DictComp]
  refine dcT_core hu hc hN I hi ok hg ht hk hv hs h ?_
  intro D C z' m G' I' q hn f
  refine ⟨m, hn, ?_⟩
  intro h'' sb
  obtain ⟨g0, g1, g2, g3, g4, g5⟩ := f
  exact ⟨.ref D, G', I'.turned (t' := z'.toks) (fun b o hb e => (sb.2 b hb).trans e) g0 g1 g3 g4 g5, rfl, q⟩
/-- name = {..} on one line, the name a local -/
theorem ps_setDcT {i : Nat} {y : Str} {py : Pos} {kx vx tg iter : Expr} {ifs : List Expr} {scope : Scope} {own : List (Str × Nat)} {pos spos : Pos} {wi : TI} {g : TG} {tt : TT} {tk tv : TE} (hu : X.A.units < cLine) (hc : X.calm = true) (hN : X.N.Nodup)
    (hy : X.N[i]? = some y) (hyl : X.env.scope.names.lookup y = some .local) (hsw : swapsWith (.DictComp kx vx [⟨tg, iter, ifs, 0⟩] scope pos) (some (.Name y py)) spos.line X.env = pure true) (hi : PI X tg iter wi) (ok : BlkOk X.N X.env.scope scope own)
    (hg : ∀ (z : Shared) (G : Hp) (C : Addr) (cl : List (Str × Addr)) (fp : List Addr), PG (X.blk z G scope (compEnvC scope cl C X.env) fp) tg g)
    (ht : ∀ (z : Shared) (G : Hp) (C : Addr) (cl : List (Str × Addr)) (fp : List Addr), PTs (X.blk z G scope (compEnvC scope cl C X.env) fp) ifs tt)
    (hk : ∀ (z : Shared) (G : Hp) (C : Addr) (cl : List (Str × Addr)) (fp : List Addr), PE (X.blk z G scope (compEnvC scope cl C X.env) fp) kx tk)
    (hv : ∀ (z : Shared) (G : Hp) (C : Addr) (cl : List (Str × Addr)) (fp : List Addr), PE (X.blk z G scope (compEnvC scope cl C X.env) fp) vx tv)
    (hs : ∀ x, foldedSetIterable iter X.env x = pure x := by intro _; rfl) :
    PS X (.Assign [.Name y py] (.DictComp kx vx [⟨tg, iter, ifs, 0⟩] scope pos) spos) (tAsg (tDcT wi g tt tk tv (own.map (·.2))) (gName i)) := by
  constructor
  intro pins z σ G D I h
  rw [exec_Assign_Name_used _ _ _ _ hsw]
  refine wpAny_bind (wpAny_standAt (wpAny_bind ?_))
  show wpAny _ X.A (do let _ ← comprehension (.DictComp kx vx [⟨tg, iter, ifs, 0⟩] scope pos) scope X.env (firstIterPos [⟨tg, iter, ifs, 0⟩] pos) newDict false (eval iter X.env) (some (assign (.Name y py) X.env))) _ _ z
  have h2 : tDcT wi g tt tk tv (own.map (·.2)) σ G (fun x G1 => gName i x σ G1 D.nx) := h
  refine wpAny_bind (thn (dcT_core (Qf := fun _ z' => SP X pins D .next z') hu hc hN I hi ok hg ht hk hv hs h2 ?_) fun _ z' hq => wpAny_pure (wpAny_pure hq))
  intro L C z' m G' I' q hn f
  show wpAny _ _ (assign (.Name y py) X.env (.ref L)) _ _ _
  refine wpAny_assign_Name (store_ok2 (v := V.ref L) I' hN hy (.inl hyl) rfl ?_ (.inr hyl))
  rintro z2 I2 ⟨b, sb, hb⟩
  obtain ⟨g0, g1, g2, g3, g4, g5⟩ := f
  have apart : C ≠ b := by
    cases hb with
    | inl e => rw [e]; exact g1
    | inr e => exact fun t => g4 y b e t.symm
  refine ⟨m, hn.sameBut sb apart, ?_⟩
  intro h3 sb3
  exact ⟨_, G', I2.turned (t' := z2.toks) (fun c o hb e => (sb3.2 c hb).trans e) g0 g1 g3 g4 g5, q⟩
theorem swD {kx vx : Expr} {gs : List Comprehension} {scope : Scope} {pos py : Pos} {y : Str} {l : Nat} {env : Env} (hk : env.scope.kind = .function) (hy : env.scope.names.lookup y = some .local) (hl : (py.line == pos.line) = true)
    (ha : (scope.names.any fun (n, k) => n == y && (k == .local || k == .cell)) = false) : swapsWith (.DictComp kx vx gs scope pos) (some (.Name y py)) l env = pure true := by
  have k1 : env.kindOf y = some .local := hy
  have k2 : env.blockKind = .function := by
    unfold Env.blockKind
    rw [hk]
    rfl
  unfold swapsWith
  simp only [k2, k1, ha, Expr.pos, hl]
  rfl
/-- over a walk -/
theorem dcT_it {J : It} {n : Nat} {Gd : Hp → Prop} {Y : Nat → Hp → V → Hp → Prop} (wk : Walk J n Gd Y) {g : TG} {tt : TT} {tk tv : TE} {vs : List Nat} {σ : L2.St} {G1 : Hp} {D : Addr} {Qd : Hp → Prop} (Pv : Nat → Hp → Prop) (h0 : Pv 0 (upd G1 D (.dT []))) (hG : ∀ i G, i ≤ n → Pv i G → Gd G)
    (hs : ∀ i x G G', i < n → Pv i G → Y i G x G' → g x (wipe σ vs) G' fun σ2 G2 => wipe σ2 vs = wipe σ vs ∧ tt σ2 G2 fun b G3 =>
      if b = true then tk σ2 G3 fun y G4 => tv σ2 G4 fun u G5 => ∃ kvs k q, y = .ref q ∧ G5 q = some (.tup (k.map kV)) ∧ G5 D = some (.dT kvs) ∧ kvs.length < sizeLine ∧ Pv (i + 1) (upd G5 D (.dT (putK kvs k u))) else Pv (i + 1) G3) (hd : ∀ G, Pv n G → Qd G) :
    ∃ W : Nat → Nat → Hp → Prop, (∃ m, W 0 m (upd G1 D (.dT []))) ∧ ∀ i m G, W i m G → (J.stop i G ∧ Qd G) ∨ (J.go i G ∧ ∃ Nx : Hp → Prop, (∀ G', Nx G' → ∃ m', m' < m ∧ W (i + 1) m' G') ∧
      ∀ x G', J.yld i G x G' → g x (wipe σ vs) G' fun σ2 G2 => wipe σ2 vs = wipe σ vs ∧ tt σ2 G2 fun b G3 =>
        if b = true then tk σ2 G3 fun y G4 => tv σ2 G4 fun u G5 => ∃ kvs k q, y = .ref q ∧ G5 q = some (.tup (k.map kV)) ∧ G5 D = some (.dT kvs) ∧ kvs.length < sizeLine ∧ Nx (upd G5 D (.dT (putK kvs k u))) else Nx G3) := by
  refine ⟨fun i m G => m = n - i ∧ i ≤ n ∧ Pv i G, ⟨n, by simp, Nat.zero_le _, h0⟩, ?_⟩
  rintro i m G ⟨rfl, hi, p⟩
  by_cases lt : i < n
  · exact .inr ⟨wk.goes i G lt (hG i G hi p), Pv (i + 1), fun G' p' => ⟨n - (i + 1), by omega, rfl, lt, p'⟩, fun x G' y => hs i x G G' lt p (wk.yields i G x G' lt (hG i G hi p) y)⟩
  · obtain rfl : i = n := by omega
    exact .inl ⟨wk.stops G (hG i G hi p), hd G p⟩
end
end PD

namespace PD
open PySem PySem.Spec PyProof.Rows L2
theorem un65 {k : Nat} {A : Around} (hr : Room k A) : A.units + 65 < cLine := by
  have := hr.un
  omega
/-! ### pairs of numbers on the heap -/
abbrev Pr := Int × Int
def PrV (H : Hp) (v : V) (q : Pr) : Prop := ∃ p, v = .ref p ∧ H p = some (.tup [.int q.1, .int q.2])
theorem PrV.same {H H' : Hp} (s : Same H H') {v : V} {q : Pr} (h : PrV H v q) : PrV H' v q := let ⟨p, a, b⟩ := h; ⟨p, a, s _ _ b⟩
theorem PrV.upd {H : Hp} {v : V} {q : Pr} {p : Addr} {u o : HO} (h : PrV H v q) (hp : H p = some u) (n : ∀ xs, u ≠ .tup xs) : PrV (upd H p o) v q := by
  obtain ⟨b, e, hb⟩ := h
  exact ⟨b, e, by rw [upd_ne (ne_of hb hp (fun z => n _ z.symm))]; exact hb⟩
/-- values that stand for things, one by one -/
structure All2 {α : Type} (F : V → α → Prop) (vs : List V) (xs : List α) : Prop where
  len : vs.length = xs.length
  each : ∀ (i : Nat) (x : α), xs[i]? = some x → ∃ v, vs[i]? = some v ∧ F v x
theorem All2.mono {α : Type} {F G : V → α → Prop} {vs : List V} {xs : List α} (h : All2 F vs xs) (f : ∀ v x, F v x → G v x) : All2 G vs xs := ⟨h.len, fun i x e => let ⟨v, a, b⟩ := h.each i x e; ⟨v, a, f v x b⟩⟩
theorem All2.nil {α : Type} {F : V → α → Prop} : All2 F [] [] := ⟨rfl, fun i c e => by simp at e⟩
theorem All2.cons {α : Type} {F : V → α → Prop} {v : V} {x : α} {vs : List V} {xs : List α} (h : F v x) (r : All2 F vs xs) : All2 F (v :: vs) (x :: xs) := by
  refine ⟨by rw [List.length_cons, List.length_cons, r.len], fun i d e => ?_⟩
  cases i with
  | zero =>
    cases (Option.some.inj e)
    exact ⟨v, rfl, h⟩
  | succ i => exact r.each i d e
theorem All2.tail {α : Type} {F : V → α → Prop} {v : V} {x : α} {vs : List V} {xs : List α} (h : All2 F (v :: vs) (x :: xs)) : F v x ∧ All2 F vs xs := by
  obtain ⟨u, e1, e2⟩ := h.each 0 x rfl
  cases (Option.some.inj e1)
  exact ⟨e2, by have := h.len; simpa using this, fun i d e => h.each (i + 1) d e⟩
theorem All2.app {α : Type} {F : V → α → Prop} : ∀ {vs ws : List V} {xs ys : List α}, All2 F vs xs → All2 F ws ys → All2 F (vs ++ ws) (xs ++ ys)
  | [], ws, [], ys, _, h => h
  | [], _, _ :: _, _, h, _ => by have := h.len; simp at this
  | _ :: _, _, [], _, h, _ => by have := h.len; simp at this
  | v :: vs, ws, x :: xs, ys, h, h' => by
    obtain ⟨a, b⟩ := h.tail
    exact .cons a (b.app h')
theorem All2.at {α : Type} {F : V → α → Prop} {vs : List V} {xs : List α} (h : All2 F vs xs) {i : Nat} {v : V} (e : vs[i]? = some v) : ∃ x, xs[i]? = some x ∧ F v x := by
  have hi : i < xs.length := by
    rw [← h.len]
    exact (List.getElem?_eq_some_iff.mp e).1
  obtain ⟨u, e1, e2⟩ := h.each i xs[i] (List.getElem?_eq_getElem hi)
  cases (Option.some.inj (e.symm.trans e1))
  exact ⟨_, List.getElem?_eq_getElem hi, e2⟩
abbrev Prs (H : Hp) (vs : List V) (ps : List Pr) : Prop := All2 (PrV H) vs ps
def PrsAt (H : Hp) (a : Addr) (ps : List Pr) : Prop := ∃ vs, H a = some (.lst vs) ∧ Prs H vs ps
theorem PrsAt.same {H H' : Hp} (s : Same H H') {a : Addr} {ps : List Pr} (h : PrsAt H a ps) : PrsAt H' a ps := let ⟨vs, x, y⟩ := h; ⟨vs, s _ _ x, y.mono fun _ _ z => z.same s⟩
def RwsAt (H : Hp) (a : Addr) (rows : List (List Pr)) : Prop := ∃ vs, H a = some (.lst vs) ∧ All2 (fun v row => ∃ r, v = .ref r ∧ PrsAt H r row) vs rows
theorem RwsAt.same {H H' : Hp} (s : Same H H') {a : Addr} {rows : List (List Pr)} (h : RwsAt H a rows) : RwsAt H' a rows := let ⟨vs, x, y⟩ := h; ⟨vs, s _ _ x, y.mono fun _ _ ⟨r, z, u⟩ => ⟨r, z, u.same s⟩⟩
/-! ### pairs as keys -/
def kk (q : Pr) : List Key := [Sum.inl q.1, Sum.inl q.2]
theorem kk_inj {p q : Pr} (h : kk p = kk q) : p = q := by
  unfold kk at h
  injection h with h1 h2
  injection h2 with h3 _
  exact Prod.ext (Sum.inl.inj h1) (Sum.inl.inj h3)
theorem kk_tup {H : Hp} {b : Addr} {q : Pr} (h : H b = some (.tup [.int q.1, .int q.2])) : H b = some (.tup ((kk q).map kV)) := h
def dk {α : Type} (f : α → V) (l : List (Pr × α)) : List (List Key × V) := l.map fun x => (kk x.1, f x.2)
theorem dk_get {α : Type} (f : α → V) (q : Pr) : ∀ l : List (Pr × α), valV (dk f l) (kk q) = (l.lookup q).map f
  | [] => rfl
  | (p, x) :: l => by
    have ih := dk_get f q l
    by_cases h : p = q
    · subst h
      show valV ((kk p, f x) :: dk f l) (kk p) = _
      rw [valV_pos rfl]
      simp [List.lookup]
    · show valV ((kk p, f x) :: dk f l) (kk q) = _
      rw [valV_neg (fun e => h (kk_inj e)), ih]
      have hb : (q == p) = false := beq_eq_false_iff_ne.mpr fun e => h e.symm
      simp [List.lookup, hb]
theorem dk_put {α : Type} (f : α → V) (q : Pr) (x : α) (l : List (Pr × α)) (h : l.lookup q = none) : putK (dk f l) (kk q) (f x) = dk f (l ++ [(q, x)]) := by
  have h2 : valV (dk f l) (kk q) = none := by
    rw [dk_get, h]
    rfl
  rw [putK_new _ h2]
  unfold dk
  rw [List.map_append]
  rfl
theorem lookup_none {α : Type} {q : Pr} : ∀ {l : List (Pr × α)}, l.lookup q = none ↔ q ∉ l.map (·.1)
  | [] => by simp
  | (p, x) :: l => by
    by_cases h : q = p
    · subst h
      simp [List.lookup]
    · have hb : (q == p) = false := beq_eq_false_iff_ne.mpr h
      simp [List.lookup, hb, lookup_none (l := l), h]
theorem lookup_snoc {α : Type} {q p : Pr} {x : α} : ∀ {l : List (Pr × α)}, (l ++ [(p, x)]).lookup q = match l.lookup q with | some y => some y | none => if q = p then some x else none
  | [] => by
    by_cases h : q = p
    · subst h
      simp [List.lookup]
    · have hb : (q == p) = false := beq_eq_false_iff_ne.mpr h
      simp [List.lookup, hb, h]
  | (r, y) :: l => by
    by_cases h : q = r
    · subst h
      simp [List.lookup]
    · have hb : (q == r) = false := beq_eq_false_iff_ne.mpr h
      have ih := lookup_snoc (q := q) (p := p) (x := x) (l := l)
      simp only [List.cons_append, List.lookup, hb]
      exact ih
/-! ### pairs as data -/
def dP (q : Pr) : PyData := .tuple [.int q.1, .int q.2]
section
variable {K : PySem.W.Frag} {H : Hp}
theorem dp_pr {v : V} {q : Pr} (h : PrV H v q) : Dp K H v (dP q) := by
  obtain ⟨p, rfl, e⟩ := h
  exact .tup (SqT.of e) (.cons (.int _) (.cons (.int _) .nil))
theorem dpa_prs : ∀ {vs : List V} {ps : List Pr}, Prs H vs ps → DpAll K H vs (ps.map dP)
  | [], [], _ => .nil
  | [], _ :: _, h => by have := h.len; simp at this
  | _ :: _, [], h => by have := h.len; simp at this
  | v :: vs, q :: ps, h => by
    obtain ⟨a, b⟩ := h.tail
    exact .cons (dp_pr a) (dpa_prs b)
def dPs (ps : List Pr) : PyData := .list (ps.map dP)
theorem dp_prs {a : Addr} {ps : List Pr} (h : PrsAt H a ps) : Dp K H (.ref a) (dPs ps) := let ⟨vs, x, y⟩ := h; .lst (SqL.of x) (dpa_prs y)
theorem dpa_rws : ∀ {vs : List V} {rows : List (List Pr)}, All2 (fun v row => ∃ r, v = .ref r ∧ PrsAt H r row) vs rows → DpAll K H vs (rows.map dPs)
  | [], [], _ => .nil
  | [], _ :: _, h => by have := h.len; simp at this
  | _ :: _, [], h => by have := h.len; simp at this
  | v :: vs, q :: ps, h => by
    obtain ⟨⟨r, e, a⟩, b⟩ := h.tail
    rw [e]
    exact .cons (dp_prs a) (dpa_rws b)
def dRs (rows : List (List Pr)) : PyData := .list (rows.map dPs)
theorem dp_rws {a : Addr} {rows : List (List Pr)} (h : RwsAt H a rows) : Dp K H (.ref a) (dRs rows) := let ⟨vs, x, y⟩ := h; .lst (SqL.of x) (dpa_rws y)
end
theorem lay_prs : ∀ ps : List Pr, PyData.canLayAll0 (ps.map dP) = true
  | [] => rfl
  | q :: ps => by
    rw [List.map_cons]
    simp only [PyData.canLayAll0, dP, PyData.canLay0, Bool.true_and]
    exact lay_prs ps
theorem depth_prs : ∀ ps : List Pr, PyData.depthAll (ps.map dP) ≤ 1
  | [] => by simp [PyData.depthAll]
  | q :: ps => by
    rw [List.map_cons]
    have := depth_prs ps
    simp only [PyData.depthAll, dP, PyData.depth]
    omega
theorem shaped_pr (q : Pr) : SeqAt.shaped (dP q) = true := by
  unfold SeqAt.shaped dP
  simp only [PyData.canLay0, PyData.canLayAll0, PyData.depth, PyData.depthAll]
  rfl
theorem shaped_prs (ps : List Pr) : SeqAt.shaped (dPs ps) = true := by
  unfold SeqAt.shaped
  rw [Bool.and_eq_true]
  refine ⟨?_, decide_eq_true ?_⟩
  · unfold dPs
    simp only [PyData.canLay0, lay_prs]
  · unfold dPs
    simp only [PyData.depth]
    have := depth_prs ps
    omega
theorem lay_rws : ∀ rows : List (List Pr), PyData.canLayAll0 (rows.map dPs) = true
  | [] => rfl
  | q :: ps => by
    rw [List.map_cons]
    simp only [PyData.canLayAll0, dPs, PyData.canLay0, lay_prs, Bool.true_and]
    exact lay_rws ps
theorem depth_rws : ∀ rows : List (List Pr), PyData.depthAll (rows.map dPs) ≤ 2
  | [] => by simp [PyData.depthAll]
  | q :: ps => by
    rw [List.map_cons]
    have := depth_rws ps
    have := depth_prs q
    simp only [PyData.depthAll, dPs, PyData.depth]
    omega
theorem shaped_rws (rows : List (List Pr)) : SeqAt.shaped (dRs rows) = true := by
  unfold SeqAt.shaped
  rw [Bool.and_eq_true]
  refine ⟨?_, decide_eq_true ?_⟩
  · unfold dRs
    simp only [PyData.canLay0, lay_rws]
  · unfold dRs
    simp only [PyData.depth]
    have := depth_rws rows
    omega
theorem eqv_pr (p q : Pr) : PyData.eqv (dP p) (dP q) = decide (p = q) := by
  unfold dP
  simp only [PyData.eqv, PyData.eqvAll, Bool.and_true]
  by_cases h : p = q
  · subst h
    simp
  · rw [decide_eq_false h]
    by_cases h1 : p.1 = q.1
    · have h2 : ¬ p.2 = q.2 := fun e => h (Prod.ext h1 e)
      simp [h2]
    · simp [h1]
theorem eqva_prs : ∀ ps qs : List Pr, PyData.eqvAll (ps.map dP) (qs.map dP) = decide (ps = qs)
  | [], [] => rfl
  | [], _ :: _ => rfl
  | _ :: _, [] => rfl
  | p :: ps, q :: qs => by
    rw [List.map_cons, List.map_cons]
    simp only [PyData.eqvAll, eqv_pr, eqva_prs ps qs]
    by_cases h1 : p = q
    · by_cases h2 : ps = qs
      · simp [h1, h2]
      · simp [h1, h2]
    · simp [h1]
theorem eqva_rws : ∀ rs qs : List (List Pr), PyData.eqvAll (rs.map dPs) (qs.map dPs) = decide (rs = qs)
  | [], [] => rfl
  | [], _ :: _ => rfl
  | _ :: _, [] => rfl
  | p :: ps, q :: qs => by
    rw [List.map_cons, List.map_cons]
    have e : PyData.eqv (dPs p) (dPs q) = decide (p = q) := by
      unfold dPs
      simp only [PyData.eqv, eqva_prs]
    simp only [PyData.eqvAll, e, eqva_rws ps qs]
    by_cases h1 : p = q
    · by_cases h2 : ps = qs
      · simp [h1, h2]
      · simp [h1, h2]
    · simp [h1]
theorem any_prs (q : Pr) : ∀ ps : List Pr, ((ps.map dP).any fun z => PyData.eqv z (dP q)) = decide (q ∈ ps)
  | [] => by simp
  | p :: ps => by
    rw [List.map_cons, List.any_cons, any_prs q ps, eqv_pr]
    by_cases h : p = q
    · subst h
      simp
    · have h2 : ¬ q = p := fun e => h e.symm
      by_cases h3 : q ∈ ps
      · simp [h3]
      · simp [h, h2, h3]
end PD

namespace PD
open PySem PySem.Spec PyProof.Rows L2
/-! ### rounds, as mathematics -/
structure OldOk (fr : List Int) (ps : List Pr) : Prop where
  nd : ps.Nodup
  each : ∀ q ∈ ps, 0 ≤ q.1 ∧ q.1 ≤ 5 ∧ 1 ≤ q.2 ∧ q.2 ≤ (fr.length : Int)
  few : ps.length ≤ 100
def upQ (fr : List Int) (q : Pr) : Pr := (q.1, (up fr q.2.toNat : Int))
def depN (fr : List Int) (ps : List Pr) : Nat → Pr → Nat
  | 0, _ => 0
  | n + 1, q => if upQ fr q ∈ ps then depN fr ps n (upQ fr q) + 1 else 0
def dep (fr : List Int) (ps : List Pr) (q : Pr) : Nat := depN fr ps q.2.toNat q
section
variable {fr : List Int} {ps : List Pr}
theorem upQ_lt (fo : FrOk fr) {q : Pr} (h1 : 1 ≤ q.2) (h2 : q.2 ≤ (fr.length : Int)) : (upQ fr q).2.toNat < q.2.toNat := by
  have := up_lt fo (t := q.2.toNat) (by omega) (by omega)
  unfold upQ
  simp only [Int.toNat_natCast]
  exact this
theorem depN_more (fo : FrOk fr) (oo : OldOk fr ps) : ∀ (n m : Nat) (q : Pr), 1 ≤ q.2 → q.2 ≤ (fr.length : Int) → q.2.toNat ≤ n → q.2.toNat ≤ m → depN fr ps n q = depN fr ps m q := by
  intro n
  induction n with
  | zero =>
    intro m q h1 _ h3
    omega
  | succ n ih =>
    intro m q h1 h2 h3 h4
    obtain ⟨m, rfl⟩ : ∃ k, m = k + 1 := ⟨m - 1, by omega⟩
    unfold depN
    by_cases hm : upQ fr q ∈ ps
    · rw [if_pos hm, if_pos hm]
      have := upQ_lt fo h1 h2
      obtain ⟨_, _, a, b⟩ := oo.each _ hm
      rw [ih m (upQ fr q) a b (by omega) (by omega)]
    · rw [if_neg hm, if_neg hm]
theorem dep_step (fo : FrOk fr) (oo : OldOk fr ps) {q : Pr} (h1 : 1 ≤ q.2) (h2 : q.2 ≤ (fr.length : Int)) : dep fr ps q = if upQ fr q ∈ ps then dep fr ps (upQ fr q) + 1 else 0 := by
  unfold dep
  obtain ⟨n, hn⟩ : ∃ n, q.2.toNat = n + 1 := ⟨q.2.toNat - 1, by omega⟩
  rw [hn]
  show (if upQ fr q ∈ ps then depN fr ps n (upQ fr q) + 1 else 0) = _
  by_cases hm : upQ fr q ∈ ps
  · rw [if_pos hm, if_pos hm]
    have := upQ_lt fo h1 h2
    obtain ⟨_, _, a, b⟩ := oo.each _ hm
    rw [depN_more fo oo n (upQ fr q).2.toNat (upQ fr q) a b (by omega) (Nat.le_refl _)]
  · rw [if_neg hm, if_neg hm]
end
/-- how many old ones are of that depth or more -/
def deepC (fr : List Int) (ps : List Pr) (d : Int) : Nat := (ps.filter fun q => decide (d ≤ (dep fr ps q : Int))).length
def need (fr : List Int) (ps : List Pr) (hands d : Int) : Int := if deepC fr ps d = 0 then 0 else d + ((deepC fr ps d : Int) + hands - 1).fdiv hands
/-! ### the round of each -/
abbrev Wh := List (Pr × Nat)
def wStep (ps : List Pr) (at_ : Nat) (acc : Wh) (q : Pr) : Option Wh := if q ∈ ps ∧ acc.lookup q = none then some (acc ++ [(q, at_)]) else none
def wRow (ps : List Pr) (at_ : Nat) : List Pr → Wh → Option Wh
  | [], acc => some acc
  | q :: r, acc => (wStep ps at_ acc q).bind (wRow ps at_ r)
def sizeOk (hands : Int) (row : List Pr) : Bool := decide (1 ≤ (row.length : Int)) && decide ((row.length : Int) ≤ hands)
def wAll (ps : List Pr) (hands : Int) : Nat → List (List Pr) → Wh → Option Wh
  | _, [], acc => some acc
  | n, row :: rows, acc => if sizeOk hands row then (wRow ps n row acc).bind (wAll ps hands (n + 1) rows) else none
/-- what holds of what is gathered: keys are old ones, none twice -/
structure WOk (ps : List Pr) (acc : Wh) : Prop where
  nd : (acc.map (·.1)).Nodup
  sub : ∀ q ∈ acc.map (·.1), q ∈ ps
theorem WOk.step {ps : List Pr} {n : Nat} {acc acc' : Wh} {q : Pr} (h : WOk ps acc) (e : wStep ps n acc q = some acc') : WOk ps acc' := by
  unfold wStep at e
  split at e
  · rename_i c
    cases (Option.some.inj e)
    obtain ⟨c1, c2⟩ := c
    have c3 := lookup_none.mp c2
    refine ⟨?_, ?_⟩
    · rw [List.map_append, List.nodup_append]
      refine ⟨h.nd, by simp, ?_⟩
      intro a ha b hb
      have : b = q := by simpa using hb
      rw [this]
      exact fun z => c3 (z ▸ ha)
    · intro p hp
      rw [List.map_append] at hp
      rcases List.mem_append.mp hp with z | z
      · exact h.sub p z
      · have : p = q := by simpa using z
        rw [this]
        exact c1
  · cases e
theorem WOk.row {ps : List Pr} {n : Nat} : ∀ {r : List Pr} {acc acc' : Wh}, WOk ps acc → wRow ps n r acc = some acc' → WOk ps acc'
  | [], acc, acc', h, e => by
    cases (Option.some.inj e)
    exact h
  | q :: r, acc, acc', h, e => by
    obtain ⟨b, e1, e2⟩ := Option.bind_eq_some_iff.mp (show (wStep ps n acc q).bind (wRow ps n r) = some acc' from e)
    exact (h.step e1).row e2
theorem WOk.all {ps : List Pr} {hands : Int} : ∀ {rows : List (List Pr)} {n : Nat} {acc acc' : Wh}, WOk ps acc → wAll ps hands n rows acc = some acc' → WOk ps acc'
  | [], n, acc, acc', h, e => by
    cases (Option.some.inj e)
    exact h
  | row :: rows, n, acc, acc', h, e => by
    unfold wAll at e
    split at e
    · obtain ⟨b, e1, e2⟩ := Option.bind_eq_some_iff.mp e
      exact (h.row e1).all e2
    · cases e
theorem WOk.nil {ps : List Pr} : WOk ps [] := ⟨by simp, fun q h => by simp at h⟩
theorem sub_len : ∀ {a b : List Pr}, a.Nodup → (∀ x ∈ a, x ∈ b) → a.length ≤ b.length
  | [], _, _, _ => Nat.zero_le _
  | x :: a, b, nd, h => by
    obtain ⟨n1, n2⟩ := List.nodup_cons.mp nd
    have hx := h x List.mem_cons_self
    have i := sub_len (a := a) (b := b.erase x) n2 fun y hy => by
      have hne : y ≠ x := fun e => n1 (e ▸ hy)
      exact (List.mem_erase_of_ne hne).mpr (h y (List.mem_cons_of_mem _ hy))
    rw [List.length_erase_of_mem hx] at i
    have : 0 < b.length := List.length_pos_of_mem hx
    rw [List.length_cons]
    omega
theorem sub_all {a b : List Pr} (na : a.Nodup) (nb : b.Nodup) (h : ∀ x ∈ a, x ∈ b) : a.length = b.length ↔ ∀ x ∈ b, x ∈ a := by
  constructor
  · intro e x hx
    by_cases hm : x ∈ a
    · exact hm
    · have i := sub_len (a := x :: a) (b := b) (List.nodup_cons.mpr ⟨hm, na⟩) fun y hy => by
        rcases List.mem_cons.mp hy with z | z
        · rw [z]
          exact hx
        · exact h y z
      rw [List.length_cons] at i
      omega
  · intro g
    have i1 := sub_len na h
    have i2 := sub_len nb g
    omega
/-- whether these rows put all anew, each behind the one right above it -/
def behind (fr : List Int) (acc : Wh) (q : Pr) : Bool := match acc.lookup (upQ fr q), acc.lookup q with
  | some a, some b => decide (a < b)
  | _, _ => true
def areR (fr : List Int) (ps : List Pr) (hands : Int) (rows : List (List Pr)) : Bool := match wAll ps hands 0 rows [] with
  | none => false
  | some acc => (ps.all fun q => (acc.lookup q).isSome) && ps.all (behind fr acc)
/-- whether a Rounds shows what it tells -/
def showsR (fr : List Int) (ps : List Pr) (hands : Int) (rows : List (List Pr)) (d : Int) : Bool := areR fr ps hands rows && (decide (0 ≤ d) && decide ((rows.length : Int) = need fr ps hands d))
theorem isSome_mem {acc : Wh} {q : Pr} : (acc.lookup q).isSome = true ↔ q ∈ acc.map (·.1) := by
  cases e : acc.lookup q with
  | none => simpa using lookup_none.mp e
  | some x =>
    have h : ¬ q ∉ acc.map (·.1) := fun z => by
      rw [lookup_none.mpr z] at e
      cases e
    simpa using h
theorem len_all {ps : List Pr} {acc : Wh} (h : WOk ps acc) (nd : ps.Nodup) : decide (acc.length = ps.length) = ps.all fun q => (acc.lookup q).isSome := by
  have e := sub_all h.nd nd h.sub
  rw [List.length_map] at e
  by_cases g : acc.length = ps.length
  · rw [decide_eq_true g]
    symm
    rw [List.all_eq_true]
    intro q hq
    exact isSome_mem.mpr (e.mp g q hq)
  · rw [decide_eq_false g]
    symm
    by_cases t : (ps.all fun q => (acc.lookup q).isSome) = true
    · exact absurd (e.mpr fun q hq => isSome_mem.mp (List.all_eq_true.mp t q hq)) g
    · simpa using t
end PD

/-! Phrasedesk: sorted(set(xs)) of a list of texts -/
namespace PD
open PySem PySem.Spec PyProof.Rows L2
def txK (e : Int × Value) : Str := match e.2 with | .str k _ => k | _ => Str.empty
def TxE (P : Program) (w : World) (e : Int × Value) : Prop := ∃ y tk, e.2 = Value.str y tk ∧ e.1 = (strKind P w).hash y
/-- a set of texts: its members and how many they are -/
def SetS (P : Program) (w : World) (g : Heap) (a : Addr) (M : Str → Bool) (c : Nat) : Prop :=
  ∃ o es ep t, g.get? a = some o ∧ o.ExactSet ∧ o.data = .set es ep t ∧ (∀ e ∈ es.toList, TxE P w e) ∧ (es.toList.map txK).Nodup ∧ (∀ y, M y = true ↔ y ∈ es.toList.map txK) ∧ es.size < scanBound ∧ t.fits es.size = true ∧ es.size = c ∧ Ris t.place.toList ∧ (w.params.followText "set-order" = true ∨ t.led = true)
section
variable {P : Program} {w : World} {g g' : Heap} {a : Addr} {M : Str → Bool} {c : Nat}
theorem SetS.at (R : SetS P w g a M c) (st : ∀ o, g.get? a = some o → g'.get? a = some o) : SetS P w g' a M c := by
  obtain ⟨o, es, ep, t, ho, more⟩ := R
  exact ⟨o, es, ep, t, st o ho, more⟩
theorem SetS.as {M' : Str → Bool} (R : SetS P w g a M c) (e : ∀ y, M' y = M y) : SetS P w g a M' c := by
  rw [show M' = M from funext e]
  exact R
theorem txE_elems {l : List (Int × Value)} (h : ∀ e ∈ l, TxE P w e) : ElemsOf (strKind P w) l := by
  intro e he
  obtain ⟨y, tk, h1, h2⟩ := h e he
  refine ⟨⟨y, ?_, h2⟩, ?_⟩
  · rw [h1]
    exact strKind_is P w y tk
  · rw [h1]
    rfl
theorem txE_is {e : Int × Value} (h : TxE P w e) (y : Str) : (strKind P w).is y e.2 = true ↔ txK e = y := by
  obtain ⟨y0, tk, h1, _⟩ := h
  unfold txK
  rw [h1]
  show ((y0 == y) = true) ↔ y0 = y
  exact beq_iff_eq
theorem txE_mem {l : List (Int × Value)} (h : ∀ e ∈ l, TxE P w e) (y : Str) : y ∈ l.map txK ↔ ∃ e ∈ l, (strKind P w).is y e.2 = true := by
  rw [List.mem_map]
  refine ⟨?_, ?_⟩
  · intro ⟨e, he, q⟩
    exact ⟨e, he, (txE_is (h e he) y).2 q⟩
  · intro ⟨e, he, q⟩
    exact ⟨e, he, (txE_is (h e he) y).1 q⟩
end
section
variable {P : Program} {w : World} {A : Around} {E : Value → Shared → Prop} {z : Shared} {a : Addr} {M : Str → Bool} {c : Nat}
theorem setS_tail {f : Bool → Sem Unit} (hf : ∀ (b : Bool) (z1 : Shared) (Q' : Unit → Shared → Prop), Q' () z1 → wpAny (model P w) A (f b) Q' E z1)
    {o : Obj} {es : Array (Int × Value)} {ep : Nat} {t : SetTable} (ho : z.heap.get? a = some o) (hx : o.ExactSet) (hd : o.data = .set es ep t)
    {es1 : Array (Int × Value)} {t2 : SetTable} {M' : Str → Bool} (g1 : ∀ e ∈ es1.toList, TxE P w e) (n1 : (es1.toList.map txK).Nodup) (m1 : ∀ y, M' y = true ↔ y ∈ es1.toList.map txK)
    (b1 : es1.size < scanBound) (f2 : t2.fits es1.size = true) (ri : Ris t2.place.toList) (le : w.params.followText "set-order" = true ∨ t2.led = true) {wd : Bool} {R : Option Bool → Shared → Prop}
    (hR : ∀ g', Heap.SameBut a z.heap g' → SetS P w g' a M' es1.size → R (some true) { z with heap := g' }) :
    wpAny (model P w) A (do
        storeSet a es1 t2
        if (!wd && t2.tooFull) = true then do
            f (relayAll t2 es1 (SetTable.grown es1.size)).2.2
            storeSet a (relayAll t2 es1 (SetTable.grown es1.size)).1 (relayAll t2 es1 (SetTable.grown es1.size)).2.1
            pure (some true)
          else pure (some true)) R E z := by
  have o1 := store_at (es' := es1) (t' := t2) ho hd
  have sb := Heap.SameBut.update z.heap a (Obj.putSet es1 t2)
  refine wpAny_bind (wpAny_storeSet_of ho hd ?_ (fits_of_scanBound b1))
  split
  · have pm := relayAll_perm t2 es1 (SetTable.grown es1.size)
    have f3 := relayAll_fits t2 es1 (SetTable.grown es1.size)
    have r3 := relayAll_ris t2 es1 (SetTable.grown es1.size)
    have l3 := relayAll_led t2 es1 (SetTable.grown es1.size)
    generalize relayAll t2 es1 (SetTable.grown es1.size) = Z at pm f3 r3 l3 ⊢
    obtain ⟨es2, t3, gv⟩ := Z
    dsimp only at pm f3 r3 l3 ⊢
    have sz : es2.size = es1.size := by
      rw [← Array.length_toList, pm.length_eq, Array.length_toList]
    have b2 : es2.size < scanBound := by
      rw [sz]
      exact b1
    refine wpAny_bind (hf _ _ _ (wpAny_bind (wpAny_storeSet_of o1 rfl ?_ (fits_of_scanBound b2))))
    have o2 := store_at (es' := es2) (t' := t3) o1 rfl
    refine wpAny_pure (hR _ (sb.trans (Heap.SameBut.update _ a _)) ⟨_, es2, _, t3, o2, hx, rfl, ?_, (pm.map txK).nodup_iff.mpr n1, ?_, b2, f3, sz, r3, ?_⟩)
    · intro e he
      exact g1 e (pm.mem_iff.mp he)
    · intro y
      exact (m1 y).trans (pm.map txK).mem_iff.symm
    · rcases le with q | q
      · exact .inl q
      · exact .inr (by rw [l3]; exact q)
  · exact wpAny_pure (hR _ sb ⟨_, es1, _, t2, o1, hx, rfl, g1, n1, m1, b1, f2, rfl, ri, le⟩)
theorem setS_add {y : Str} {tk : Tok} {Q : Bool → Shared → Prop} (R : SetS P w z.heap a M c) (room : c + 1 < scanBound)
    (hQ : ∀ g', Heap.SameBut a z.heap g' → SetS P w g' a (fun j => M j || decide (j = y)) (if M y = true then c else c + 1) → Q (!M y) { z with heap := g' }) :
    wpAny (model P w) A (setAddHashed a (.str y tk) ((strKind P w).hash y)) Q E z := by
  obtain ⟨o, es, ep, t, ho, hx, hd, gd, nd, hm, hb, hf, hn, ri, le⟩ := R
  have key : (strKind P w).is y (.str y tk) = true := strKind_is P w y tk
  have sc : (Value.str y tk).scannable = true := rfl
  have el : ElemsOf (strKind P w) es.toList := txE_elems gd
  unfold setAddHashed setAddHashedIn
  refine wpAny_holding (wpAny_bind (wpAny_setState_of ho hd hf ?_))
  dsimp only
  rw [byScan_of sc hb el]
  simp only [↓reduceIte]
  unfold setAddByScan
  refine wpAny_bind (wpAny_bind (wpAny_rule (wpAny_bind (wpAny_setScan_of key ho hd hf el ?_))))
  cases fi : List.findIdx? (fun e => (strKind P w).is y e.2) es.toList with
  | some j =>
    dsimp only
    obtain ⟨hj, pj, _⟩ := List.findIdx?_eq_some_iff_getElem.mp fi
    have My : M y = true := (hm y).2 ((txE_mem (P := P) (w := w) gd y).2 ⟨es.toList[j], List.getElem_mem hj, pj⟩)
    have q := hQ z.heap (Heap.SameBut.refl a z.heap) ⟨o, es, ep, t, ho, hx, hd, gd, nd, ?_, hb, hf, by rw [if_pos My]; exact hn, ri, le⟩
    · rw [My] at q
      exact wpAny_pure (wpAny_pure q)
    · intro i
      rw [Bool.or_eq_true, decide_eq_true_eq, ← hm i]
      exact ⟨fun k => k.elim id (fun e => e ▸ My), .inl⟩
  | none =>
    dsimp only
    have ny : y ∉ es.toList.map txK := by
      intro k
      obtain ⟨e, he, q⟩ := (txE_mem (P := P) (w := w) gd y).1 k
      have d := List.findIdx?_eq_none_iff.mp fi e he
      rw [q] at d
      cases d
    have My : M y = false := by
      cases q : M y with
      | false => rfl
      | true => exact absurd ((hm y).1 q) ny
    have gw : ∀ (b : Bool) {z1 : Shared} {Q' : Unit → Shared → Prop}, Q' () z1 → wpAny (model P w) A (match b with | true => rule "set.scan.the-table-gave-way" | false => pure ()) Q' E z1 := by
      intro b z1 Q' q
      cases b <;> first | exact wpAny_pure q | exact wpAny_rule q
    have pm := layNew_perm t es ((strKind P w).hash y) (.str y tk)
    have f1 := layNew_fits t es ((strKind P w).hash y) (.str y tk)
    have r1 := layNew_ris t es ((strKind P w).hash y) (.str y tk) ri
    have l1 := layNew_led t es ((strKind P w).hash y) (.str y tk)
    generalize layNew t es ((strKind P w).hash y) (.str y tk) = Z at pm f1 r1 l1 ⊢
    obtain ⟨es1, t1, wd, gv⟩ := Z
    dsimp only at pm f1 r1 l1 ⊢
    rw [Array.toList_push] at pm
    have pc : es1.toList.Perm (((strKind P w).hash y, Value.str y tk) :: es.toList) := pm.trans (List.perm_append_singleton _ _)
    have pk : (es1.toList.map txK).Perm (y :: es.toList.map txK) := pc.map txK
    have g1 : ∀ e ∈ es1.toList, TxE P w e := by
      intro e he
      rcases List.mem_cons.mp (pc.mem_iff.mp he) with k | k
      · rw [k]
        exact ⟨y, tk, rfl, rfl⟩
      · exact gd e k
    have n1 : (es1.toList.map txK).Nodup := pk.nodup_iff.mpr (List.nodup_cons.mpr ⟨ny, nd⟩)
    have m1 : ∀ i, (M i || decide (i = y)) = true ↔ i ∈ es1.toList.map txK := by
      intro i
      rw [Bool.or_eq_true, decide_eq_true_eq, hm i, pk.mem_iff, List.mem_cons]
      exact Or.comm
    have sz : es1.size = c + 1 := by
      rw [← Array.length_toList, pc.length_eq, List.length_cons, Array.length_toList, hn]
    have b1 : es1.size < scanBound := by
      rw [sz]
      exact room
    have le1 : w.params.followText "set-order" = true ∨ t1.led = true := by
      rcases le with q | q
      · exact .inl q
      · exact .inr (by rw [l1]; exact q)
    have fin : ∀ g', Heap.SameBut a z.heap g' → SetS P w g' a (fun j => M j || decide (j = y)) es1.size → Q true { z with heap := g' } := by
      intro g' sb r
      have q := hQ g' sb
      rw [My] at q
      rw [sz] at r
      exact q r
    refine wpAny_bind (gw _ ?_)
    split
    · refine wpAny_bind ?_
      rw [hashByValue_scannable 8 sc]
      refine wpAny_pure ?_
      refine setS_tail ?_ ho hx hd g1 n1 m1 b1 ?_ ?_ ?_ ?_
      · intro b z1 Q' q
        cases b <;> first | exact wpAny_pure q | exact wpAny_rule q
      · first | (split <;> first | exact f1 | exact SetTable.fits_plain_off f1) | exact f1
      · first | (split <;> exact r1) | exact r1
      · first | (split <;> exact le1) | exact le1
      · intro g' sb r
        dsimp only
        exact wpAny_pure (fin g' sb r)
    · refine wpAny_bind (wpAny_pure ?_)
      simp only [↓reduceIte]
      refine setS_tail ?_ ho hx hd g1 n1 m1 b1 f1 r1 le1 ?_
      · intro b z1 Q' q
        cases b <;> first | exact wpAny_pure q | exact wpAny_rule q
      · intro g' sb r
        dsimp only
        exact wpAny_pure (fin g' sb r)
end

/-- a new set's object -/
abbrev newSet (w : World) : Obj := { cls := .type "set", dict := none, data := .set #[] 0 (.fresh 0 0 (!w.params.followText "set-order")) }
theorem setS_none {P : Program} {w : World} {g : Heap} {a : Addr} (ho : g.get? a = some (newSet w)) : SetS P w g a (fun _ => false) 0 := by
  refine ⟨_, #[], 0, _, ho, ⟨rfl, rfl, rfl⟩, rfl, ?_, by simp, by simp, by decide, rfl, rfl, List.Pairwise.nil, ?_⟩
  · intro e he
    simp at he
  · show _ ∨ (!w.params.followText "set-order") = true
    cases w.params.followText "set-order"
    · exact Or.inr rfl
    · exact Or.inl rfl
section
variable {P : Program} {w : World} {A : Around} {E : Value → Shared → Prop} {z : Shared}
theorem setS_all {I : Addr} {fp wr : List Addr} {G : Array GenState → Array GenState → Prop} {n : Nat} {Pv : Nat → Value → Prop} {Sx : Nat → Shared → Prop} {R : Result → Shared → Prop}
    (W : WalksS P w A.in1 I fp wr G n Pv Sx) (D : Addr) (hD : D ∉ fp) (ys : List Str) (hn : n = ys.length) (hb : ys.length + 1 < scanBound) (hv : ∀ i v, Pv i v → ∃ y t, ys[i]? = some y ∧ v = .str y t) :
    ∀ (k i : Nat) (z : Shared), n - i = k → i ≤ n → Sx i z → (∃ c, c ≤ i ∧ SetS P w z.heap D (fun j => decide (j ∈ ys.take i)) c) →
      (∀ z' c, Moved (D :: wr) G z z' → c ≤ n → SetS P w z'.heap D (fun j => decide (j ∈ ys)) c → R (.ok (.ret .none)) z') →
      codeAny (model P w) A (.builtin "set.update.loop" ⟨[.ref D, .ref I], []⟩) R z := by
  have nw : D ∉ wr := fun h => hD (W.sub _ h)
  have up : ∀ b ∈ wr, b ∈ D :: wr := fun b h => List.mem_cons_of_mem _ h
  intro k
  induction k with
  | zero =>
    rintro i z e hi st ⟨c, hc, hS⟩ hR
    have ei : i = n := by omega
    subst ei
    refine codeAny_builtin F.entry_set_update_loop ?_
    rw [Around.under_plainId F.plain_set_update_loop _]
    show wpAny _ A.in1 (pyNext (.ref I) >>= _) _ _ z
    refine wpAny_bind (W.done z _ _ st fun z' hm => ?_)
    show wpAny _ A.in1 (ret Value.none) _ _ z'
    have et : ys.take i = ys := List.take_of_length_le (by omega)
    rw [et] at hS
    exact wpAny_pure (hR z' c (hm.mono up) hc (hS.at fun o e => hm.heap D o nw e))
  | succ k ih =>
    rintro i z e hi st ⟨c, hc, hS⟩ hR
    have lt : i < n := by omega
    refine codeAny_builtin F.entry_set_update_loop ?_
    rw [Around.under_plainId F.plain_set_update_loop _]
    show wpAny _ A.in1 (pyNext (.ref I) >>= _) _ _ z
    refine wpAny_bind (W.item i z _ _ lt st fun v z' hP st' hm => ?_)
    obtain ⟨y, t, ey, rfl⟩ := hv i v hP
    have hS' : SetS P w z'.heap D (fun j => decide (j ∈ ys.take i)) c := hS.at fun o e => hm.heap D o nw e
    show wpAny _ A.in1 (holding [Value.str y t] (setAdd D (.str y t)) >>= _) _ _ z'
    refine wpAny_bind (wpAny_holding ?_)
    unfold setAdd
    refine wpAny_holding (wpAny_bind ((strKind P w).pyHash (k := y) (strKind_is _ _ _ _) ?_))
    refine setS_add (z := { z' with toks := z'.toks + 1 }) hS' (by omega) fun g' sb hS2 => ?_
    have hS3 : SetS P w g' D (fun j => decide (j ∈ ys.take (i + 1))) (if decide (y ∈ ys.take i) = true then c else c + 1) := by
      refine hS2.as fun j => ?_
      rw [List.take_add_one, ey]
      simp [List.mem_append]
    have c3 : (if decide (y ∈ ys.take i) = true then c else c + 1) ≤ i + 1 := by
      split <;> omega
    refine wpAny_pure ⟨plainId_quiet F.plain_set_update_loop _, ih (i + 1) _ (by omega) lt (W.frame _ z' _ _ st' (Nat.le_succ _) fun b hb o e => ?_) ⟨_, c3, hS3⟩ fun z2 c2 m2 k2 S2 => ?_⟩
    · rw [sb.2 b (fun h : b = D => hD (by rw [← h]; exact hb))]
      exact e
    · refine hR z2 c2 (Moved.trans W.gtrans ((hm.mono up).then_heap (Nat.le_succ _) fun b o hb e => ?_) m2) k2 S2
      rw [sb.2 b (fun h : b = D => hb (by rw [h]; exact List.mem_cons_self))]
      exact e
theorem set_texts {l : Addr} {its : Array Value} (ys : List Str) {Q : Value → Shared → Prop} (hh : A.handled = none) (hl : z.heap.IsList l its) (hit : StrsAre its.toList ys) (hb : ys.length + 1 < scanBound)
    (h : ∀ (g' : Heap) (tk c : Nat), SetS P w g' z.heap.objs.size (fun j => decide (j ∈ ys)) c → c ≤ ys.length → (∀ b o, z.heap.get? b = some o → g'.get? b = some o) → Q (.ref z.heap.objs.size) { z with heap := g', toks := tk }) :
    wpAny (model P w) A (call (.type "set") [.ref l]) Q E z := by
  have isz : its.size = ys.length := by
    rw [← StrsAre.len_eq hit, Array.length_toList]
  obtain ⟨cl, tl, hmro⟩ := F.called_set.mro
  have made := F.called_set.made
  have sub := F.called_set.sub
  refine wpAny_call (codeAny_of_tree (show wpAny _ _ (callAny (.type "set") _) _ _ _ from wpAny_pure ⟨Code.quiet_builtin _ (by decide +kernel), codeAny_builtin F.entry_type_call ?_⟩))
  rw [Around.under_plain (weight_type_call_type "set" [.ref l] []) rfl]
  have k1 := F.called_set.notType
  have k2 := F.called_set.canCreate
  have k3 := F.typeCall_set_1 (.ref l)
  repeat (any_goals (first | assumption | wp_step))
  refine codeAny_mono (code_set_led1 (.ref l) (E := E) (Q₁ := fun x z1 => x = .ref z.heap.objs.size ∧ z1 = { z with heap := z.heap.push (newSet w) }) ⟨rfl, rfl⟩) fun r z1 hr => ?_
  cases r with
  | error e => exact hr
  | ok fl =>
    cases fl with
    | ret ob =>
      obtain ⟨rfl, rfl⟩ := hr
      have hS : (z.heap.push (newSet w)).get? z.heap.objs.size = some (newSet w) := Heap.get?_push_size _ rfl
      have hT : Shared.TypeIs { z with heap := z.heap.push (newSet w) } (.ref z.heap.objs.size) "set" := ⟨_, hS, rfl⟩
      have hli := F.called_set.init.lookup
      have hbi := F.called_set.init.bind (.ref z.heap.objs.size)
      repeat (any_goals (first | assumption | wp_step))
      refine codeAny_mono (codeAny_call_builtin (R := wants (fun r z2 => r = .none ∧ ∃ g' tk c, z2 = { z with heap := g', toks := tk } ∧ SetS P w g' z.heap.objs.size (fun j => decide (j ∈ ys)) c ∧ c ≤ ys.length ∧ (∀ b o, z.heap.get? b = some o → g'.get? b = some o)) E) F.called_set.init.plain F.entry_set_init (check_set_init_1 hT ?_)) fun r2 z2 hr2 => ?_
      · obtain ⟨ol, hol, hcl, nl, hdl⟩ := hl
        obtain ⟨ocls, odict, odata, oslots⟩ := ol
        dsimp only at hcl hdl
        cases hcl
        cases hdl
        have hol' : (z.heap.push (newSet w)).get? l = some { cls := .type "list", dict := odict, data := .seq its nl, slots := oslots } := Heap.get?_push_of_some _ hol
        have hsls := F.sub_list_set
        have hslf := F.sub_list_frozenset
        have hne : (Value.type "list" == Value.type "dict") = false := by decide
        have hl1 : (z.heap.push (newSet w)).IsList l its := ⟨_, hol', rfl, nl, rfl⟩
        unfold Builtin.«set.__init__» noKeywords Builtin.Frozenset.updateFrom
        generalize hPI : pyIter = PI
        wp_walk
        subst hPI
        refine wpAny_pyIter_list hl1 (wpAny_bind (wpAny_runValue ?_))
        have lS : l < z.heap.objs.size := Heap.lt_size hol
        have h3 : A.in1.in1.in1.handled = none := by simp [hh]
        have nI : l ≠ (z.heap.push (newSet w)).objs.size := by
          rw [Heap.size_push]
          exact Nat.ne_of_lt (Nat.lt_succ_of_lt lS)
        have nS : z.heap.objs.size ∉ [(z.heap.push (newSet w)).objs.size, l] := by
          rw [Heap.size_push]
          simp only [List.mem_cons, List.not_mem_nil, or_false, not_or]
          exact ⟨Nat.ne_of_lt (Nat.lt_succ_self z.heap.objs.size), Nat.ne_of_gt lS⟩
        have val : ∀ (i : Nat) (v : Value), its[i]? = some v → ∃ y t, ys[i]? = some y ∧ v = .str y t := by
          intro i v ev
          have li : i < ys.length := by
            rw [← isz]
            exact (Array.getElem?_eq_some_iff.mp ev).1
          obtain ⟨t, e⟩ := SS.strs_at hit i v (by rw [Array.getElem?_toList]; exact ev)
          refine ⟨ys[i], t, List.getElem?_eq_getElem li, ?_⟩
          rw [e, List.getD_eq_getElem?_getD, List.getElem?_eq_getElem li]
          rfl
        refine setS_all ((Walks.list h3 _ l nI its).toS) z.heap.objs.size nS ys isz hb val (its.size - 0) 0 _ (by omega) (Nat.zero_le _) ⟨⟨_, Heap.get?_push_size _ rfl, rfl, rfl⟩, (hl1.push _)⟩ ⟨0, Nat.le_refl 0, ?_⟩ ?_
        · refine (setS_none (g := _) (a := z.heap.objs.size) (Heap.get?_push_of_some _ hS)).as fun j => ?_
          simp
        · intro z' c' hm lc hS'
          obtain ⟨g', g2, d', tk', os'⟩ := z'
          cases (show g2 = z.gens from hm.gens)
          cases (show d' = z.drawn from hm.drawn)
          cases (show os' = z.os from hm.os)
          show wpAny _ _ _ _ _ _
          refine wpAny_pure ?_
          show wpAny _ _ (ret Value.none) _ _ _
          rw [isz] at lc
          refine wpAny_pure ⟨rfl, g', tk', c', rfl, hS', lc, fun b o e => ?_⟩
          have b0 : b < z.heap.objs.size := Heap.lt_size e
          refine hm.heap b o ?_ (Heap.get?_push_of_some _ (Heap.get?_push_of_some _ e))
          rw [Heap.size_push]
          simp only [List.mem_cons, List.not_mem_nil, or_false, not_or]
          exact ⟨Nat.ne_of_lt b0, Nat.ne_of_lt (Nat.lt_succ_of_lt b0)⟩
      · cases r2 with
        | error e => exact hr2
        | ok fl2 =>
          cases fl2 with
          | ret r =>
            obtain ⟨rfl, g', tk, c', rfl, hS', lc, kp⟩ := hr2
            repeat (any_goals (first | assumption | wp_step))
            exact h _ _ _ hS' lc kp
          | _ => exact hr2.elim
    | _ => exact hr.elim
/-- what is in a list of values, as texts -/
theorem texts_of : ∀ (l : List Value), (∀ v ∈ l, ∃ y tk, v = Value.str y tk) → StrsAre l (l.map fun v => txK (0, v))
  | [], _ => .nil
  | v :: l, h => by
    obtain ⟨y, tk, rfl⟩ := h v List.mem_cons_self
    exact .cons y tk (texts_of l fun u hu => h u (List.mem_cons_of_mem _ hu))
theorem sorted_texts {a : Addr} {M : Str → Bool} {c : Nat} {Q : Value → Shared → Prop} (R : SetS P w z.heap a M c) (hh : A.handled = none) (h64 : c < 64)
    (hQ : ∀ z' p (out : Array Value) (n : Nat) (ys : List Str), (∀ b o, z.heap.get? b = some o → z'.heap.get? b = some o) → z'.gens = z.gens → z'.os = z.os → z.heap.objs.size ≤ p →
      z'.heap.get? p = some (seqObj "list" out n) → StrsAre out.toList ys → sortedS ys = true → ys.Nodup → (∀ y, y ∈ ys ↔ M y = true) → ys.length = c → Q (.ref p) z') :
    wpAny (model P w) A (call (.builtin "sorted") [.ref a]) Q E z := by
  obtain ⟨o, es, ep, t, ho, hx, hd, gd, nd, hm, hb, hf, hn, ri, le⟩ := R
  refine Calls.call_function_entry kind_sorted plain_sorted entry_sorted (args_sorted1 _) ?_
  unfold Builtin.«sorted»
  refine wpAny_bind (m := checkCount "sorted" 1 1 _) (wpAny_pure (wpAny_bind (collect_set (A := A.in1) hh ⟨o, ho, hx.1, hd⟩ hf hb ri le fun z1 vs k1 hz g1 o1 pm => ?_)))
  have vl : vs.length = c := by
    rw [pm.length_eq, List.length_map, Array.length_toList]
    exact hn
  have hS : StrsAre vs (vs.map fun v => txK (0, v)) := texts_of vs fun v hv => by
    obtain ⟨e, he, q⟩ := List.mem_map.mp (pm.mem_iff.mp hv)
    obtain ⟨y, tk, h1, _⟩ := gd e he
    exact ⟨y, tk, q ▸ h1⟩
  have pk : (vs.map fun v => txK (0, v)).Perm (es.toList.map txK) := by
    have q := pm.map fun v => txK (0, v)
    rw [List.map_map] at q
    exact q
  refine wpAny_bind (wpAny_newList ?_ (by rw [vl, sizeLine_eq]; omega))
  have oL : (z1.heap.push (seqObj "list" vs.toArray 0)).get? z1.heap.objs.size = some (seqObj "list" vs.toArray 0) := Heap.get?_push_size _ rfl
  refine wpAny_bind (wpAny_holding (wpAny_call_entry slot_list_sort ⟨_, oL, rfl⟩ entry_list_sort (list_sort_treeK strKind_oneLt (s := { z1 with heap := z1.heap.push (seqObj "list" vs.toArray 0) }) oL hS.keysOf (fun v1 v2 rest e => keyKind_strs (by rw [← e]; exact hS)) (by rw [vl]; exact h64) fun st' hp hs => ⟨_, rfl, ?_⟩) (args_list_sort _)))
  obtain ⟨ys, q1, q2, q3⟩ := sorted_out_str hS hp hs
  obtain ⟨n, hc⟩ := sortedHeap_at (vs := vs) (out := (arrOf st').map (·.2)) oL
  have pn : ys.Perm (es.toList.map txK) := q2.trans pk
  refine wpAny_pure ⟨_, rfl, hQ _ z1.heap.objs.size _ n ys (fun b u e => ?_) g1 o1 hz hc q1 q3 (pn.nodup_iff.mpr nd) (fun y => by rw [pn.mem_iff, ← hm y]) ?_⟩
  · have q := k1 b u e
    have lt := Heap.lt_size q
    show (sortedHeap (z1.heap.push (seqObj "list" vs.toArray 0)) z1.heap.objs.size vs _).get? b = some u
    rw [sortedHeap_old (Nat.ne_of_lt lt) (by rw [size_push']; exact Nat.lt_succ_of_lt lt)]
    exact Heap.get?_push_of_some _ q
  · rw [pn.length_eq, List.length_map, Array.length_toList]
    exact hn
end
section
variable {X : Cx}
/-- sorted(set(e)), e a list of fewer than 64 texts -/
def tSrt (K : PySem.W.Frag) (ta : TE) : TE := fun σ G Q => ta σ G fun x G1 => ∃ (l : Addr) (ys : List Str), x = .ref l ∧ SqL K G1 l (ys.map V.str) ∧ ys.length < 63 ∧
  ∀ (ts : List Str) (p : Addr), sortedS ts = true → ts.Nodup → (∀ y, y ∈ ts ↔ y ∈ ys) → G1 p = none → Q (.ref p) (upd G1 p (.lst (ts.map V.str)))
theorem pe_srt {e : Expr} {ta : TE} {p p2 q pos : Pos} (hc : X.calm = true) (hg : Gl X "sorted") (hm : X.mg "sorted" = none) (hg2 : Gl X "set") (hm2 : X.mg "set" = none) (ha : PE X e ta)
    (na : starEach [e] X.env = (false, eval e X.env) :: starEach [] X.env := by rfl) : PE X (.Call (.Name "sorted" p) [.Call (.Name "set" p2) [e] [] q] [] pos) (tSrt X.K ta) := by
  refine ⟨fun pins z σ G Q I h => Call_ (ld_blt I hg hm boot_sorted (PyProof.Rows.callWith_builtin1 (PyProof.Rows.args_cons (Call_ (ld_blt I hg2 hm2 boot_set ?_)) rfl) rfl rfl))⟩
  refine PyProof.Rows.callWith_type1 (PyProof.Rows.args_cons (thn (ha.run pins z σ G _ I h) fun v z1 ⟨x, G1, I1, r1, q1⟩ => PyProof.Rows.args_nil ?_) na) na rfl
  obtain ⟨l, ys, rfl, hs, hl, q1⟩ := q1
  cases r1
  obtain ⟨its, rv, pl, _⟩ := I1.list hs
  have hS : StrsAre its.toArray.toList ys := by simpa using strsAre_of rv
  refine set_texts ys (I1.ok.hd hc) pl.isList hS (by unfold scanBound; omega) fun g' tk c R lc kp => PyProof.Rows.args_nil ?_
  have I2 : Inv X pins σ G1 { z1 with heap := g', toks := tk } := I1.kept kp
  refine sorted_texts (z := { z1 with heap := g', toks := tk }) R (I2.ok.hd hc) (by omega) fun z2 a out n ts k2 e2 o2 za ha' hts srt nd mem ln => ?_
  have len : (ts.map V.str).length ≤ sizeLine := by
    rw [List.length_map, ln, sizeLine_eq]
    omega
  have na : G1 a = none := I2.hok.fresh za
  have J : Inv X pins σ (upd G1 a (.lst (ts.map V.str))) { { z1 with heap := g', toks := tk } with heap := z2.heap, gens := z2.gens, drawn := z2.drawn, toks := z2.toks } :=
    I2.call (ch := []) (Un.laid k2 za na) (I2.hok.laid k2 za ⟨len, out.toList, n, vals_of_strs hts, by rw [Array.toArray_toList]; exact ha'⟩) (by rw [e2]; exact I2.bare) (fun _ y => nomatch y)
  have ez : z2 = { { z1 with heap := g', toks := tk } with heap := z2.heap, gens := z2.gens, drawn := z2.drawn, toks := z2.toks } := by
    cases z2
    cases z1
    cases o2
    rfl
  rw [ez]
  exact ⟨.ref a, _, J, rfl, q1 ts a srt nd (fun y => by rw [mem y, decide_eq_true_iff]) na⟩
end
end PD

/-! Phrasedesk: a desk's state, as it lies in a dict of the law's own -/
namespace PD
open PySem PySem.Spec PyProof.Rows L2
structure Pt where
  p : Nat
  t : Nat
  x : Str
  s : Option Int
structure De where
  n : Nat
  puts : List Pt
  lie : Nat → Nat → List Int
def De.none : De := ⟨0, [], fun _ _ => []⟩
def De.now (S : De) (p t : Nat) : Option Int := (S.lie p t).getLast?
def setL (f : Nat → Nat → List Int) (p t : Nat) (ns : List Int) : Nat → Nat → List Int := fun p' t' => if p' = p ∧ t' = t then ns else f p' t'
def De.lay (S : De) (p t : Nat) (x : Str) (s : Option Int) : De := ⟨S.n, S.puts ++ [⟨p, t, x, s⟩], setL S.lie p t (S.lie p t ++ [(S.puts.length : Int)])⟩
def De.more (S : De) : De := ⟨S.n + 1, S.puts, S.lie⟩
def De.off (S : De) (p t : Nat) : De := ⟨S.n, S.puts, setL S.lie p t (S.lie p t).dropLast⟩
def De.pt (S : De) (k : Int) : Pt := S.puts.getD k.toNat ⟨0, 0, Str.empty, Option.none⟩
def De.cell (S : De) (p t : Nat) : Cell := (S.now p t).map fun k => (k, (S.pt k).s)
def De.row (S : De) (m p : Nat) : List Cell := (List.range m).map fun t => S.cell p t
/-- a put as it lies -/
def PtV (H : Hp) (v : V) (u : Pt) : Prop := ∃ q, v = .ref q ∧ H q = some (.tup [.int u.p, .int u.t, .str u.x, oV u.s])
theorem PtV.same {H H' : Hp} (e : Same H H') {v : V} {u : Pt} (h : PtV H v u) : PtV H' v u := let ⟨q, a, b⟩ := h; ⟨q, a, e _ _ b⟩
def LieV (H : Hp) (l : Addr) : Option V → List Int → Prop
  | .none, ns => ns = []
  | .some v, ns => ∃ a, v = .ref a ∧ a ≠ l ∧ LsAt H a ns
theorem LieV.same {H H' : Hp} {l : Addr} (e : Same H H') : ∀ {r : Option V} {ns : List Int}, LieV H l r ns → LieV H' l r ns
  | .none, _, h => h
  | .some _, _, ⟨a, x, z, y⟩ => ⟨a, x, z, y.same e⟩
abbrev ty (p t : Nat) : List Key := [Sum.inl (p : Int), Sum.inl (t : Int)]
theorem ty_inj {p t p' t' : Nat} (h : ty p t = ty p' t') : p = p' ∧ t = t' := by
  have h1 : (Sum.inl (p : Int) : Key) = Sum.inl (p' : Int) := (List.cons.inj h).1
  have h2 : (Sum.inl (t : Int) : Key) = Sum.inl (t' : Int) := (List.cons.inj (List.cons.inj h).2).1
  have h3 := Sum.inl.inj h1
  have h4 := Sum.inl.inj h2
  omega
abbrev kP : Key := Sum.inr "phrases"
abbrev kU : Key := Sum.inr "puts"
abbrev kL : Key := Sum.inr "lying"
abbrev topK (n : Nat) (l d : Addr) : List (Key × V) := [(kP, .int (n : Int)), (kU, .ref l), (kL, .ref d)]
structure Here (H : Hp) (o l d : Addr) (S : De) : Prop where
  top : H o = some (.dK (topK S.n l d))
  puts : ∃ vs, H l = some (.lst vs) ∧ All2 (PtV H) vs S.puts
  lie : ∃ kvs, H d = some (.dT kvs) ∧ kvs.length ≤ S.puts.length ∧ ∀ p t : Nat, LieV H l (valV kvs (ty p t)) (S.lie p t)
  few : S.puts.length ≤ 5000
  lens : ∀ p t, (S.lie p t).length ≤ S.puts.length
theorem Here.same {H H' : Hp} (e : Same H H') {o l d : Addr} {S : De} (h : Here H o l d S) : Here H' o l d S := by
  obtain ⟨vs, h1, h2⟩ := h.puts
  obtain ⟨kvs, h3, h4, h5⟩ := h.lie
  exact ⟨e _ _ h.top, ⟨vs, e _ _ h1, h2.mono fun _ _ z => z.same e⟩, ⟨kvs, e _ _ h3, h4, fun p t => (h5 p t).same e⟩, h.few, h.lens⟩
theorem topP (n : Nat) (l d : Addr) : valV (topK n l d) kP = some (.int (n : Int)) := rfl
theorem topU (n : Nat) (l d : Addr) : valV (topK n l d) kU = some (.ref l) := rfl
theorem topL (n : Nat) (l d : Addr) : valV (topK n l d) kL = some (.ref d) := rfl
/-- all but the three stays -/
def Off (o l d : Addr) (H H' : Hp) : Prop := ∀ a x, a ≠ o → a ≠ l → a ≠ d → H a = some x → H' a = some x
/-- a text that may be put -/
structure TxOk (x : Str) : Prop where
  lo : 1 ≤ x.length
  hi : x.length ≤ 6
  each : ∀ c ∈ x.cps.toList, 97 ≤ c ∧ c ≤ 122
theorem app_cps (x y : Str) : (x ++ y).cps.toList = x.cps.toList ++ y.cps.toList := Array.toList_append
theorem app_len (x y : Str) : (x ++ y).length = x.length + y.length := Array.size_append
theorem az_at : ∀ j : Nat, j < 26 → (Str.ofString "abcdefghijklmnopqrstuvwxyz").cps.toList[j]? = some (97 + j) := by
  have h : ∀ j : _root_.Fin 26, (Str.ofString "abcdefghijklmnopqrstuvwxyz").cps.toList[j.val]? = some (97 + j.val) := by decide +kernel
  exact fun j hj => h ⟨j, hj⟩
theorem Off.same {o l d : Addr} {H H' H2 : Hp} (h : Off o l d H H') (e : Same H' H2) : Off o l d H H2 := fun a x h1 h2 h3 q => e _ _ (h a x h1 h2 h3 q)
theorem off_same {o l d : Addr} {H H' H2 : Hp} (e : Same H H') (h : Off o l d H' H2) : Off o l d H H2 := fun a x h1 h2 h3 q => h a x h1 h2 h3 (e _ _ q)
theorem Off.refl {o l d : Addr} {H : Hp} : Off o l d H H := fun _ _ _ _ _ q => q
theorem Off.trans {o l d : Addr} {H H' H2 : Hp} (h : Off o l d H H') (e : Off o l d H' H2) : Off o l d H H2 := fun a x h1 h2 h3 q => e a x h1 h2 h3 (h a x h1 h2 h3 q)
theorem Here.ne {H : Hp} {o l d : Addr} {S : De} (h : Here H o l d S) : o ≠ l ∧ o ≠ d ∧ l ≠ d := by
  obtain ⟨vs, h1, _⟩ := h.puts
  obtain ⟨kvs, h2, _⟩ := h.lie
  exact ⟨ne_of h.top h1 (fun z => nomatch z), ne_of h.top h2 (fun z => nomatch z), ne_of h1 h2 (fun z => nomatch z)⟩
/-- one more phrase -/
theorem Here.one {H : Hp} {o l d : Addr} {S : De} (h : Here H o l d S) : Here (upd H o (.dK (topK (S.n + 1) l d))) o l d S.more := by
  obtain ⟨n1, n2, n3⟩ := h.ne
  obtain ⟨vs, h1, h2⟩ := h.puts
  obtain ⟨kvs, h3, h4, h5⟩ := h.lie
  refine ⟨upd_same, ⟨vs, ?_, h2.mono ?_⟩, ⟨kvs, ?_, h4, ?_⟩, h.few, h.lens⟩
  · rw [upd_ne (Ne.symm n1)]
    exact h1
  · rintro v u ⟨q, a, b⟩
    refine ⟨q, a, ?_⟩
    rw [upd_ne (ne_of b h.top (fun z => nomatch z))]
    exact b
  · rw [upd_ne (Ne.symm n2)]
    exact h3
  · intro p t
    have z := h5 p t
    cases e : valV kvs (ty p t) with
    | none =>
      rw [e] at z
      exact z
    | some v =>
      rw [e] at z
      obtain ⟨a, x, nl, y⟩ := z
      refine ⟨a, x, nl, ?_⟩
      unfold LsAt
      rw [upd_ne (ne_of y h.top (fun z => nomatch z))]
      exact y
theorem off_o {o l d : Addr} {H : Hp} {x : HO} : Off o l d H (upd H o x) := fun a y h1 _ _ q => by
  rw [upd_ne h1]
  exact q
theorem off_l {o l d : Addr} {H : Hp} {x : HO} : Off o l d H (upd H l x) := fun a y _ h1 _ q => by
  rw [upd_ne h1]
  exact q
theorem off_d {o l d : Addr} {H : Hp} {x : HO} : Off o l d H (upd H d x) := fun a y _ _ h1 q => by
  rw [upd_ne h1]
  exact q
/-- one is put -/
theorem Here.lay {H H1 H3 : Hp} {o l d q a : Addr} {S : De} {vs : List V} {kvs : List (List Key × V)} {p t : Nat} {x : Str} {s : Option Int} (h : Here H o l d S) (fw : S.puts.length < 5000) (s1 : Same H H1) (hq : H1 q = some (.tup [.int p, .int t, .str x, oV s]))
    (hl : H1 l = some (.lst vs)) (s3 : Same (upd H1 l (.lst (vs ++ [.ref q]))) H3) (hd : H3 d = some (.dT kvs)) (na : a ≠ l) (ha : LsAt H3 a (S.lie p t ++ [(S.puts.length : Int)])) :
    Here (upd H3 d (.dT (putK kvs (ty p t) (.ref a)))) o l d (S.lay p t x s) ∧ Off o l d H (upd H3 d (.dT (putK kvs (ty p t) (.ref a)))) := by
  obtain ⟨n1, n2, n3⟩ := h.ne
  have h1 := h.same s1
  obtain ⟨vs', e1, h2⟩ := h1.puts
  rw [hl] at e1
  cases (HO.lst.inj (Option.some.inj e1))
  obtain ⟨kvs', e3, h4, h5⟩ := h1.lie
  have e3' : H3 d = some (.dT kvs') := s3 _ _ (by rw [upd_ne (Ne.symm n3)]; exact e3)
  rw [hd] at e3'
  cases (HO.dT.inj (Option.some.inj e3'))
  have keepT : ∀ {b : Addr} {xs : List V}, H1 b = some (.tup xs) → (upd H3 d (.dT (putK kvs (ty p t) (.ref a)))) b = some (.tup xs) := by
    intro b xs e
    have z : H3 b = some (.tup xs) := s3 _ _ (by rw [upd_ne (ne_of e hl (fun z => nomatch z))]; exact e)
    rw [upd_ne (ne_of z hd (fun z => nomatch z))]
    exact z
  refine ⟨⟨?_, ⟨vs ++ [.ref q], ?_, ?_⟩, ⟨_, upd_same, ?_, ?_⟩, ?_, ?_⟩, ?_⟩
  · rw [upd_ne n2]
    exact s3 _ _ (by rw [upd_ne n1]; exact h1.top)
  · rw [upd_ne n3]
    exact s3 _ _ upd_same
  · refine All2.app (h2.mono ?_) (All2.cons ⟨q, rfl, keepT hq⟩ All2.nil)
    rintro v u ⟨b, x, y⟩
    exact ⟨b, x, keepT y⟩
  · show _ ≤ (S.puts ++ [_]).length
    have := length_putK kvs (ty p t) (.ref a)
    rw [List.length_append, List.length_singleton]
    omega
  · intro p' t'
    rw [valV_put]
    show LieV _ l _ (setL S.lie p t _ p' t')
    unfold setL
    by_cases e : ty p' t' = ty p t
    · rw [if_pos e, if_pos (ty_inj e)]
      refine ⟨a, rfl, na, ?_⟩
      unfold LsAt
      rw [upd_ne (ne_of ha hd (fun z => nomatch z))]
      exact ha
    · rw [if_neg e, if_neg (fun z => e (by rw [z.1, z.2]))]
      have z := h5 p' t'
      cases ev : valV kvs (ty p' t') with
      | none =>
        rw [ev] at z
        exact z
      | some v =>
        rw [ev] at z
        obtain ⟨b, x1, bl, y1⟩ := z
        refine ⟨b, x1, bl, ?_⟩
        have y3 : H3 b = some (.lst ((S.lie p' t').map V.int)) := s3 _ _ (by rw [upd_ne bl]; exact y1)
        unfold LsAt
        rw [upd_ne (ne_of y3 hd (fun z => nomatch z))]
        exact y3
  · show (S.puts ++ [_]).length ≤ 5000
    rw [List.length_append, List.length_singleton]
    omega
  · intro p' t'
    show (setL S.lie p t _ p' t').length ≤ (S.puts ++ [_]).length
    have z := h.lens p' t'
    rw [List.length_append, List.length_singleton]
    unfold setL
    split
    · next e =>
      rw [e.1, e.2] at z
      rw [List.length_append, List.length_singleton]
      omega
    · omega
  · exact (off_same s1 off_l).trans ((Off.refl.same s3).trans off_d)
/-- what stands is taken back -/
theorem Here.back {H H3 : Hp} {o l d a : Addr} {S : De} {kvs : List (List Key × V)} {p t : Nat} (h : Here H o l d S) (s3 : Same H H3) (hd : H3 d = some (.dT kvs)) (there : (valV kvs (ty p t)).isSome = true) (na : a ≠ l) (ha : LsAt H3 a (S.lie p t).dropLast) :
    Here (upd H3 d (.dT (putK kvs (ty p t) (.ref a)))) o l d (S.off p t) ∧ Off o l d H (upd H3 d (.dT (putK kvs (ty p t) (.ref a)))) := by
  obtain ⟨n1, n2, n3⟩ := h.ne
  have h3 := h.same s3
  obtain ⟨vs, e1, h2⟩ := h3.puts
  obtain ⟨kvs', e3, h4, h5⟩ := h3.lie
  rw [hd] at e3
  cases (HO.dT.inj (Option.some.inj e3))
  refine ⟨⟨?_, ⟨vs, ?_, h2.mono ?_⟩, ⟨_, upd_same, ?_, ?_⟩, h.few, ?_⟩, off_same s3 off_d⟩
  · rw [upd_ne n2]
    exact h3.top
  · rw [upd_ne n3]
    exact e1
  · rintro v u ⟨b, x, y⟩
    refine ⟨b, x, ?_⟩
    rw [upd_ne (ne_of y hd (fun z => nomatch z))]
    exact y
  · unfold putK
    rw [valV_any, there, if_pos rfl, List.length_map]
    exact h4
  · intro p' t'
    rw [valV_put]
    show LieV _ l _ (setL S.lie p t _ p' t')
    unfold setL
    by_cases e : ty p' t' = ty p t
    · rw [if_pos e, if_pos (ty_inj e)]
      refine ⟨a, rfl, na, ?_⟩
      unfold LsAt
      rw [upd_ne (ne_of ha hd (fun z => nomatch z))]
      exact ha
    · rw [if_neg e, if_neg (fun z => e (by rw [z.1, z.2]))]
      have z := h5 p' t'
      cases ev : valV kvs (ty p' t') with
      | none =>
        rw [ev] at z
        exact z
      | some v =>
        rw [ev] at z
        obtain ⟨b, x1, bl, y1⟩ := z
        refine ⟨b, x1, bl, ?_⟩
        unfold LsAt
        rw [upd_ne (ne_of y1 hd (fun z => nomatch z))]
        exact y1
  · intro p' t'
    show (setL S.lie p t _ p' t').length ≤ S.puts.length
    have z := h.lens p' t'
    unfold setL
    split
    · next e =>
      rw [e.1, e.2] at z
      rw [List.length_dropLast]
      omega
    · exact z
theorem one_ix {j n : Nat} {α : Type} {x y : α} (h : n ≤ j) (e : [x][j - n]? = some y) : j = n ∧ y = x := by
  have ej : j - n = 0 := by
    by_cases z : j - n = 0
    · exact z
    · rw [show j - n = (j - n - 1) + 1 by omega] at e
      simp at e
  rw [ej] at e
  exact ⟨by omega, (Option.some.inj e).symm⟩
theorem RowAt.snoc {H : Hp} {D : Addr} {vs : List V} {row : List Cell} {v : V} {c : Cell} (h : RowAt H D row) (hv : H D = some (.lst vs)) (hc : CellV H v c) : RowAt (upd H D (.lst (vs ++ [v]))) D (row ++ [c]) := by
  obtain ⟨ws, hw, hcs⟩ := h
  rw [hv] at hw
  cases (HO.lst.inj (Option.some.inj hw))
  have keep : ∀ {v : V} {c : Cell}, CellV H v c → CellV (upd H D (.lst (vs ++ [v]))) v c := by
    intro v c h
    match c, h with
    | none, h => exact h
    | some (n, b), ⟨q, e1, e2⟩ => exact ⟨q, e1, by rw [upd_ne (ne_of e2 hv (fun z => nomatch z))]; exact e2⟩
  have keep2 : ∀ {u : V} {c : Cell}, CellV H u c → CellV (upd H D (.lst (vs ++ [v]))) u c := by
    intro u c h
    match c, h with
    | none, h => exact h
    | some (n, b), ⟨q, e1, e2⟩ => exact ⟨q, e1, by rw [upd_ne (ne_of e2 hv (fun z => nomatch z))]; exact e2⟩
  refine ⟨_, upd_same, ⟨by rw [List.length_append, List.length_append, hcs.len]; rfl, fun i d e => ?_⟩⟩
  by_cases hi : i < row.length
  · rw [List.getElem?_append_left hi] at e
    obtain ⟨w, h1, h2⟩ := hcs.each i d e
    exact ⟨w, by rw [List.getElem?_append_left (by rw [hcs.len]; exact hi)]; exact h1, keep2 h2⟩
  · rw [List.getElem?_append_right (by omega)] at e
    obtain ⟨e1, rfl⟩ := one_ix (by omega) e
    subst e1
    exact ⟨v, by rw [List.getElem?_append_right (by rw [hcs.len]; omega), hcs.len, Nat.sub_self]; rfl, keep2 hc⟩
/-- all that was ever put: numbers and texts -/
def evG (p t : Nat) : Nat → List Pt → List (Int × Str)
  | _, [] => []
  | k, u :: r => (if u.p = p ∧ u.t = t then [((k : Int), u.x)] else []) ++ evG p t (k + 1) r
theorem evG_snoc {p t : Nat} {u : Pt} : ∀ {l : List Pt} {k : Nat}, evG p t k (l ++ [u]) = evG p t k l ++ (if u.p = p ∧ u.t = t then [(((k + l.length : Nat) : Int), u.x)] else [])
  | [], k => by
    show (_ ++ []) = _
    rw [List.append_nil]
    rfl
  | v :: r, k => by
    show _ ++ evG p t (k + 1) (r ++ [u]) = (_ ++ evG p t (k + 1) r) ++ _
    rw [evG_snoc, List.append_assoc, List.length_cons, show k + 1 + r.length = k + (r.length + 1) by omega]
def De.ever (S : De) (p t : Nat) : List (Int × Str) := evG p t 0 S.puts
theorem evG_mem {p t : Nat} {e : Int × Str} : ∀ {l : List Pt} {k : Nat}, e ∈ evG p t k l ↔ ∃ (j : Nat) (u : Pt), l[j]? = some u ∧ u.p = p ∧ u.t = t ∧ e = (((k + j : Nat) : Int), u.x)
  | [], k => by simp [evG]
  | v :: r, k => by
    show e ∈ _ ++ evG p t (k + 1) r ↔ _
    rw [List.mem_append, evG_mem]
    constructor
    · rintro (h | ⟨j, u, h1, h2, h3, h4⟩)
      · by_cases c : v.p = p ∧ v.t = t
        · rw [if_pos c] at h
          exact ⟨0, v, rfl, c.1, c.2, List.mem_singleton.mp h⟩
        · rw [if_neg c] at h
          cases h
      · exact ⟨j + 1, u, by simpa using h1, h2, h3, by rw [h4, show k + 1 + j = k + (j + 1) by omega]⟩
    · rintro ⟨j, u, h1, h2, h3, h4⟩
      cases j with
      | zero =>
        cases (Option.some.inj h1)
        refine .inl ?_
        rw [if_pos ⟨h2, h3⟩]
        exact List.mem_singleton.mpr h4
      | succ j => exact .inr ⟨j, u, by simpa using h1, h2, h3, by rw [h4, show k + 1 + j = k + (j + 1) by omega]⟩
theorem evG_len {p t : Nat} : ∀ {l : List Pt} {k : Nat}, (evG p t k l).length ≤ l.length
  | [], k => Nat.le_refl _
  | v :: r, k => by
    show (_ ++ evG p t (k + 1) r).length ≤ r.length + 1
    rw [List.length_append]
    have := evG_len (p := p) (t := t) (l := r) (k := k + 1)
    by_cases c : v.p = p ∧ v.t = t
    · rw [if_pos c]
      show 1 + _ ≤ _
      omega
    · rw [if_neg c]
      show 0 + _ ≤ _
      omega
def EvV (H : Hp) (v : V) (e : Int × Str) : Prop := ∃ q, v = .ref q ∧ H q = some (.tup [.int e.1, .str e.2])
theorem EvV.same {H H' : Hp} (s : Same H H') {v : V} {e : Int × Str} (h : EvV H v e) : EvV H' v e := let ⟨q, a, b⟩ := h; ⟨q, a, s _ _ b⟩
def EvAt (H : Hp) (a : Addr) (l : List (Int × Str)) : Prop := ∃ vs, H a = some (.lst vs) ∧ All2 (EvV H) vs l
theorem EvAt.same {H H' : Hp} (s : Same H H') {a : Addr} {l : List (Int × Str)} (h : EvAt H a l) : EvAt H' a l := let ⟨vs, x, y⟩ := h; ⟨vs, s _ _ x, y.mono fun _ _ z => z.same s⟩
theorem EvAt.snoc {H : Hp} {D : Addr} {vs : List V} {l : List (Int × Str)} {v : V} {e : Int × Str} (h : EvAt H D l) (hv : H D = some (.lst vs)) (he : EvV H v e) : EvAt (upd H D (.lst (vs ++ [v]))) D (l ++ [e]) := by
  obtain ⟨ws, hw, ha⟩ := h
  rw [hv] at hw
  cases (HO.lst.inj (Option.some.inj hw))
  have keep : ∀ {u : V} {e : Int × Str}, EvV H u e → EvV (upd H D (.lst (vs ++ [v]))) u e := by
    rintro u e ⟨q, e1, e2⟩
    exact ⟨q, e1, by rw [upd_ne (ne_of e2 hv (fun z => nomatch z))]; exact e2⟩
  exact ⟨_, upd_same, All2.app (ha.mono fun _ _ z => keep z) (All2.cons (keep he) All2.nil)⟩
/-- the numbers that lie are numbers of puts -/
def De.Num (S : De) : Prop := ∀ (p t : Nat) (k : Int), k ∈ S.lie p t → 0 ≤ k ∧ ∃ u, S.puts[k.toNat]? = some u ∧ u.p = p ∧ u.t = t
theorem De.Num.now {S : De} (h : S.Num) {p t : Nat} {k : Int} (e : S.now p t = some k) : 0 ≤ k ∧ ∃ u, S.puts[k.toNat]? = some u ∧ u.p = p ∧ u.t = t := h p t k (List.mem_of_getLast? e)
theorem De.pt_at {S : De} {k : Int} {u : Pt} (e : S.puts[k.toNat]? = some u) : S.pt k = u := by
  unfold De.pt
  rw [List.getD_eq_getElem?_getD, e]
  rfl
theorem Here.put_at {H : Hp} {o l d : Addr} {S : De} (h : Here H o l d S) {k : Int} (k0 : 0 ≤ k) {u : Pt} (e : S.puts[k.toNat]? = some u) : ∃ vs q, H l = some (.lst vs) ∧ atI vs k = some (.ref q) ∧ H q = some (.tup [.int u.p, .int u.t, .str u.x, oV u.s]) := by
  obtain ⟨vs, h1, h2⟩ := h.puts
  obtain ⟨v, e1, q, rfl, e2⟩ := h2.each _ _ e
  exact ⟨vs, q, h1, at_of (j := k.toNat) (by omega) e1, e2⟩
/-! ### a state that can be -/
structure De.Ok (fr : List Int) (S : De) : Prop where
  num : S.Num
  six : S.n ≤ 6
  src : ∀ p, p < S.n → S.lie p 0 ≠ []
  each : ∀ (k : Nat) (u : Pt), S.puts[k]? = some u → u.p < S.n ∧ u.t ≤ fr.length ∧ TxOk u.x ∧ (u.t = 0 → u.s = Option.none) ∧ (0 < u.t → ∃ j : Nat, u.s = some (j : Int) ∧ ∃ v, S.puts[j]? = some v ∧ v.p = u.p ∧ v.t = up fr u.t)
theorem De.row_at {S : De} {m p t : Nat} (h : t < m) : (S.row m p)[t]? = some (S.cell p t) := by
  unfold De.row
  rw [List.getElem?_map, List.getElem?_range h]
  rfl
theorem De.row_len {S : De} {m p : Nat} : (S.row m p).length = m := by
  unfold De.row
  rw [List.length_map, List.length_range]
theorem De.Ok.row {fr : List Int} {S : De} (h : S.Ok fr) {p : Nat} (hp : p < S.n) : RowOk fr (S.row (fr.length + 1) p) := by
  refine ⟨De.row_len, ?_, fun j c e => ?_⟩
  · obtain ⟨k, ek⟩ : ∃ k, S.now p 0 = some k := by
      cases e : S.now p 0 with
      | none => exact absurd (List.getLast?_eq_none_iff.mp e) (h.src p hp)
      | some k => exact ⟨k, rfl⟩
    obtain ⟨k0, u, eu, up_, ut⟩ := h.num.now ek
    obtain ⟨_, _, _, hs, _⟩ := h.each _ u eu
    refine ⟨k, ?_, k0⟩
    rw [De.row_at (by omega)]
    unfold De.cell
    rw [ek, Option.map_some, De.pt_at eu, hs ut]
  · have hj : j + 1 < fr.length + 1 := by
      have := (List.getElem?_eq_some_iff.mp e).1
      rw [De.row_len] at this
      exact this
    rw [De.row_at hj] at e
    cases (Option.some.inj e)
    unfold De.cell
    cases en : S.now p (j + 1) with
    | none => exact .inl rfl
    | some k =>
      obtain ⟨k0, u, eu, up_, ut⟩ := h.num.now en
      obtain ⟨_, _, _, _, hs⟩ := h.each _ u eu
      obtain ⟨b, eb, _⟩ := hs (by omega)
      refine .inr ⟨k, b, ?_, k0, Int.natCast_nonneg b⟩
      rw [Option.map_some, De.pt_at eu, eb]
def De.tx (S : De) (p t : Nat) : Str := match S.now p t with
  | some k => (S.pt k).x
  | .none => Str.empty
def De.like (fr : List Int) (S : De) (p t q : Nat) : Bool := decide (q ≠ p) && ((S.now p (up fr t)).isSome && ((S.now q (up fr t)).isSome && (decide (S.tx p (up fr t) = S.tx q (up fr t)) && (chain fr (S.row (fr.length + 1) q) t).isNone)))
def De.found (fr : List Int) (S : De) (p t i : Nat) : List Str := ((List.range i).filter (S.like fr p t)).map fun q => S.tx q t
theorem De.found_yes {fr : List Int} {S : De} {p t i : Nat} (h : S.like fr p t i = true) : S.found fr p t (i + 1) = S.found fr p t i ++ [S.tx i t] := by
  unfold De.found
  rw [List.range_succ, List.filter_append, List.map_append, List.filter_cons_of_pos h, List.filter_nil]
  rfl
theorem De.found_no {fr : List Int} {S : De} {p t i : Nat} (h : S.like fr p t i = false) : S.found fr p t (i + 1) = S.found fr p t i := by
  unfold De.found
  rw [List.range_succ, List.filter_append, List.map_append, List.filter_cons_of_neg (by rw [h]; decide), List.filter_nil]
  exact List.append_nil _
theorem De.found_len {fr : List Int} {S : De} {p t i : Nat} : (S.found fr p t i).length ≤ i := by
  unfold De.found
  rw [List.length_map]
  have := List.length_filter_le (S.like fr p t) (List.range i)
  rw [List.length_range] at this
  exact this
/-- what is fresh stands -/
theorem De.fresh_now {fr : List Int} {S : De} {q t : Nat} (fo : FrOk fr) (t0 : 0 < t) (t1 : t ≤ fr.length) (h : chain fr (S.row (fr.length + 1) q) t = Option.none) : ∃ k, S.now q t = some k := by
  rw [chain_step fo t0 t1] at h
  cases e : S.now q t with
  | some k => exact ⟨k, rfl⟩
  | none =>
    exfalso
    have b : brk fr (S.row (fr.length + 1) q) t = true := by
      have z : (S.row (fr.length + 1) q).getD t Option.none = Option.none := by
        rw [List.getD_eq_getElem?_getD, De.row_at (by omega)]
        unfold De.cell
        rw [e]
        rfl
      unfold brk
      rw [z]
    rw [b] at h
    cases h
/-! ### deeds -/
inductive Deed where
  | phrase (x : Str)
  | fill (t : Nat)
  | back (p t : Nat)
  | put (p t : Nat) (x : Str) (s o : Option Int)
def Deed.vals : Deed → List V
  | .phrase x => [.str "phrase", .str x]
  | .fill t => [.str "fill", .int t]
  | .back p t => [.str "back", .int p, .int t]
  | .put p t x s o => [.str "put", .int p, .int t, .str x, oV s, oV o]
def De.Seen (fr : List Int) (S : De) (p t : Nat) (s : Option Int) : Prop := (t = 0 → s = Option.none) ∧ (0 < t → ∃ k : Nat, s = some (k : Int) ∧ ∃ v, S.puts[k]? = some v ∧ v.p = p ∧ v.t = up fr t)
def De.May (fr : List Int) (S : De) : Deed → Prop
  | .phrase x => S.n < 6 ∧ TxOk x
  | .fill t => 0 < t ∧ t ≤ fr.length
  | .back p t => p < S.n ∧ t ≤ fr.length ∧ (if t = 0 then 1 else 0) < (S.lie p t).length
  | .put p t x s o => p < S.n ∧ t ≤ fr.length ∧ TxOk x ∧ o = S.now p t ∧ S.Seen fr p t s
theorem De.Ok.seen_now {fr : List Int} {S : De} (h : S.Ok fr) {p q : Nat} {k : Int} (e : S.now p q = some k) : ∃ j : Nat, k = (j : Int) ∧ ∃ v, S.puts[j]? = some v ∧ v.p = p ∧ v.t = q := by
  obtain ⟨k0, u, eu, h1, h2⟩ := h.num.now e
  exact ⟨k.toNat, by omega, u, eu, h1, h2⟩
theorem De.seen_ever {S : De} {p q : Nat} {e : Int × Str} (h : e ∈ S.ever p q) : ∃ j : Nat, e.1 = (j : Int) ∧ ∃ v, S.puts[j]? = some v ∧ v.p = p ∧ v.t = q := by
  obtain ⟨j, u, h1, h2, h3, h4⟩ := evG_mem.mp h
  refine ⟨j, ?_, u, h1, h2, h3⟩
  rw [h4]
  show ((0 + j : Nat) : Int) = _
  rw [Nat.zero_add]
/-! ### what comes -/
inductive Line where
  | phrase (p : Nat) (x : Str) (k : Int)
  | put (p t : Nat) (x : Str) (s o : Option Int) (k : Int)
  | back (p t : Nat) (k : Int)
def Line.vals : Line → List V
  | .phrase p x k => [.str "phrase", .int p, .str x, .int k]
  | .put p t x s o k => [.str "put", .int p, .int t, .str x, oV s, oV o, .int k]
  | .back p t k => [.str "back", .int p, .int t, .int k]
inductive Res where
  | num (k : Int)
  | many (l : List Int)
def onlyOf : List Str → Option Str
  | [] => Option.none
  | x :: r => if r.all (fun y => decide (y = x)) then some x else Option.none
def De.fillOne (fr : List Int) (t : Nat) (A : De × List Int × List Line) (p : Nat) : De × List Int × List Line :=
  if (chain fr (A.1.row (fr.length + 1) p) (up fr t)).isNone && (chain fr (A.1.row (fr.length + 1) p) t).isSome then
    match onlyOf (A.1.found fr p t A.1.n) with
    | some x => (A.1.lay p t x (A.1.now p (up fr t)), A.2.1 ++ [(p : Int)], A.2.2 ++ [.put p t x (A.1.now p (up fr t)) (A.1.now p t) (A.1.puts.length : Int)])
    | Option.none => A
  else A
def De.fillTo (fr : List Int) (t : Nat) (S : De) (i : Nat) : De × List Int × List Line := (List.range i).foldl (De.fillOne fr t) (S, [], [])
theorem De.fillTo_succ {fr : List Int} {t : Nat} {S : De} {i : Nat} : S.fillTo fr t (i + 1) = De.fillOne fr t (S.fillTo fr t i) i := by
  unfold De.fillTo
  rw [List.range_succ, List.foldl_append]
  rfl
def De.come (fr : List Int) (S : De) : Deed → De × Res × List Line
  | .phrase x => (S.more.lay S.n 0 x Option.none, .num (S.n : Int), [.phrase S.n x (S.puts.length : Int)])
  | .put p t x s o => (S.lay p t x s, .num (S.puts.length : Int), [.put p t x s o (S.puts.length : Int)])
  | .back p t => (S.off p t, .num ((S.now p t).getD 0), [.back p t ((S.now p t).getD 0)])
  | .fill t => ((S.fillTo fr t S.n).1, .many (S.fillTo fr t S.n).2.1, (S.fillTo fr t S.n).2.2)
theorem snoc_at {α : Type} {l : List α} {x y : α} {k : Nat} (h : (l ++ [x])[k]? = some y) : l[k]? = some y ∨ (k = l.length ∧ y = x) := by
  by_cases hk : k < l.length
  · rw [List.getElem?_append_left hk] at h
    exact .inl h
  · rw [List.getElem?_append_right (by omega)] at h
    obtain ⟨a, b⟩ := one_ix (by omega) h
    exact .inr ⟨a, b⟩
theorem at_snoc {α : Type} {l : List α} {x y : α} {k : Nat} (h : l[k]? = some y) : (l ++ [x])[k]? = some y := by
  rw [List.getElem?_append_left (List.getElem?_eq_some_iff.mp h).1]
  exact h
/-- one more put keeps what can be -/
theorem De.Ok.lay' {fr : List Int} {S : De} (n' : Nat) (hn : n' ≤ 6) (h : S.Num) (hs : ∀ p, p < n' → S.lie p 0 ≠ [] ∨ p = q ∧ t = 0)
    (he : ∀ (k : Nat) (u : Pt), S.puts[k]? = some u → u.p < n' ∧ u.t ≤ fr.length ∧ TxOk u.x ∧ (u.t = 0 → u.s = Option.none) ∧ (0 < u.t → ∃ j : Nat, u.s = some (j : Int) ∧ ∃ v, S.puts[j]? = some v ∧ v.p = u.p ∧ v.t = up fr u.t))
    {x : Str} {s : Option Int} (hq : q < n') (ht : t ≤ fr.length) (tx : TxOk x) (sn : S.Seen fr q t s) (e : S.n = n') : (S.lay q t x s).Ok fr := by
  refine ⟨?_, ?_, ?_, ?_⟩
  · intro p' t' k hk
    have hk' : k ∈ setL S.lie q t (S.lie q t ++ [(S.puts.length : Int)]) p' t' := hk
    unfold setL at hk'
    show 0 ≤ k ∧ ∃ u, (S.puts ++ [_])[k.toNat]? = some u ∧ _
    split at hk'
    · next c =>
      rcases List.mem_append.mp hk' with z | z
      · obtain ⟨k0, u, h1, h2, h3⟩ := h q t k z
        exact ⟨k0, u, at_snoc h1, by rw [h2, c.1], by rw [h3, c.2]⟩
      · have ek : k = (S.puts.length : Int) := List.mem_singleton.mp z
        refine ⟨by omega, ⟨q, t, x, s⟩, ?_, c.1.symm, c.2.symm⟩
        rw [List.getElem?_append_right (by omega), show k.toNat - S.puts.length = 0 by omega]
        rfl
    · obtain ⟨k0, u, h1, h2, h3⟩ := h p' t' k hk'
      exact ⟨k0, u, at_snoc h1, h2, h3⟩
  · show S.n ≤ 6
    omega
  · intro p hp
    show setL S.lie q t (S.lie q t ++ [(S.puts.length : Int)]) p 0 ≠ []
    unfold setL
    split
    · simp
    · next c =>
      rcases hs p (by rw [← e]; exact hp) with z | z
      · exact z
      · exact absurd ⟨z.1, z.2.symm⟩ c
  · intro k u hk
    have lift : ∀ {p' t' : Nat} {s' : Option Int}, (0 < t' → ∃ j : Nat, s' = some (j : Int) ∧ ∃ v, S.puts[j]? = some v ∧ v.p = p' ∧ v.t = up fr t') → 0 < t' → ∃ j : Nat, s' = some (j : Int) ∧ ∃ v, (S.puts ++ [⟨q, t, x, s⟩])[j]? = some v ∧ v.p = p' ∧ v.t = up fr t' := by
      intro p' t' s' z z0
      obtain ⟨j, e1, v, e2, e3⟩ := z z0
      exact ⟨j, e1, v, at_snoc e2, e3⟩
    show u.p < S.n ∧ _
    rw [e]
    rcases snoc_at hk with z | ⟨_, rfl⟩
    · obtain ⟨h1, h2, h3, h4, h5⟩ := he k u z
      exact ⟨h1, h2, h3, h4, lift h5⟩
    · exact ⟨hq, ht, tx, sn.1, lift sn.2⟩
theorem De.Ok.lay {fr : List Int} {S : De} (h : S.Ok fr) {p t : Nat} {x : Str} {s : Option Int} (hp : p < S.n) (ht : t ≤ fr.length) (tx : TxOk x) (sn : S.Seen fr p t s) : (S.lay p t x s).Ok fr :=
  De.Ok.lay' S.n h.six h.num (fun p' hp' => .inl (h.src p' hp')) h.each hp ht tx sn rfl
theorem De.Ok.phrase {fr : List Int} {S : De} (h : S.Ok fr) {x : Str} (n6 : S.n < 6) (tx : TxOk x) : (S.more.lay S.n 0 x Option.none).Ok fr := by
  refine De.Ok.lay' (S := S.more) (S.n + 1) (by omega) h.num (fun p hp => ?_) (fun k u e => ?_) (by omega) (by omega) tx ⟨fun _ => rfl, fun z => by omega⟩ rfl
  · by_cases c : p = S.n
    · exact .inr ⟨c, rfl⟩
    · exact .inl (h.src p (by omega))
  · obtain ⟨h1, h2⟩ := h.each k u e
    exact ⟨by omega, h2⟩
theorem De.Ok.off {fr : List Int} {S : De} (h : S.Ok fr) {p t : Nat} (hl : (if t = 0 then 1 else 0) < (S.lie p t).length) : (S.off p t).Ok fr := by
  refine ⟨?_, h.six, ?_, h.each⟩
  · intro p' t' k hk
    have hk' : k ∈ setL S.lie p t (S.lie p t).dropLast p' t' := hk
    unfold setL at hk'
    split at hk'
    · next c =>
      rw [c.1, c.2]
      exact h.num p t k (List.dropLast_subset _ hk')
    · exact h.num p' t' k hk'
  · intro q hq
    show setL S.lie p t (S.lie p t).dropLast q 0 ≠ []
    unfold setL
    split
    · next c =>
      rw [if_pos c.2.symm] at hl
      intro z
      have := congrArg List.length z
      rw [List.length_dropLast] at this
      simp at this
      omega
    · exact h.src q hq
theorem onlyOf_cons {a : Str} {r : List Str} : onlyOf (a :: r) = if (r.all fun y => decide (y = a)) = true then some a else Option.none := rfl
theorem onlyOf_some {l : List Str} {x : Str} (h : onlyOf l = some x) : ∀ y, y ∈ l ↔ y = x := by
  cases l with
  | nil => cases h
  | cons a r =>
    rw [onlyOf_cons] at h
    by_cases c : (r.all fun y => decide (y = a)) = true
    · rw [if_pos c] at h
      cases (Option.some.inj h)
      intro y
      rw [List.mem_cons]
      refine ⟨fun z => z.elim id fun z => ?_, .inl⟩
      exact of_decide_eq_true (List.all_eq_true.mp c y z)
    · rw [if_neg c] at h
      cases h
theorem onlyOf_of {l : List Str} {x : Str} (h : ∀ y, y ∈ l ↔ y = x) : onlyOf l = some x := by
  cases l with
  | nil => exact absurd ((h x).mpr rfl) (fun z => by cases z)
  | cons a r =>
    have ea : a = x := (h a).mp List.mem_cons_self
    subst ea
    rw [onlyOf_cons, if_pos (List.all_eq_true.mpr fun y hy => decide_eq_true ((h y).mp (List.mem_cons_of_mem _ hy)))]
/-- sorted and each once: one alone, or not -/
theorem only_list {ts l : List Str} (nd : ts.Nodup) (m : ∀ y, y ∈ ts ↔ y ∈ l) : (∃ x, ts = [x] ∧ onlyOf l = some x) ∨ (ts.length ≠ 1 ∧ onlyOf l = Option.none) := by
  cases e : onlyOf l with
  | some x =>
    refine .inl ⟨x, ?_, rfl⟩
    have z := onlyOf_some e
    match ts, nd, m with
    | [], _, m => exact absurd ((m x).mpr ((z x).mpr rfl)) (fun y => by cases y)
    | [a], _, m => rw [(z a).mp ((m a).mp List.mem_cons_self)]
    | a :: b :: r, nd, m =>
      have h1 := (z a).mp ((m a).mp List.mem_cons_self)
      have h2 := (z b).mp ((m b).mp (List.mem_cons_of_mem _ List.mem_cons_self))
      exact absurd (by rw [h1, h2]; exact List.mem_cons_self) (List.nodup_cons.mp nd).1
  | none =>
    refine .inr ⟨fun h1 => ?_, rfl⟩
    match ts, h1, m with
    | [a], _, m =>
      have : onlyOf l = some a := onlyOf_of fun y => by rw [← m y, List.mem_singleton]
      rw [this] at e
      cases e
theorem Off.tup {o l d : Addr} {H H' : Hp} {S : De} (h : Off o l d H H') (hh : Here H o l d S) {q : Addr} {xs : List V} (e : H q = some (.tup xs)) : H' q = some (.tup xs) := by
  obtain ⟨vs, h1, _⟩ := hh.puts
  obtain ⟨kvs, h2, _⟩ := hh.lie
  exact h q _ (ne_of e hh.top (fun z => nomatch z)) (ne_of e h1 (fun z => nomatch z)) (ne_of e h2 (fun z => nomatch z)) e
theorem Off.chg {o l d : Addr} {H H' : Hp} {p : Addr} {x : HO} (h : Off o l d H H') (n : H p = Option.none) : Off o l d H (upd H' p x) := by
  intro a y h1 h2 h3 e
  rw [upd_ne (ne_of_none e n)]
  exact h a y h1 h2 h3 e
theorem Off.ls {o l d : Addr} {H H' : Hp} {S : De} (h : Off o l d H H') (hh : Here H o l d S) {q : Addr} {xs : List V} (nl : q ≠ l) (e : H q = some (.lst xs)) : H' q = some (.lst xs) := by
  obtain ⟨kvs, h2, _⟩ := hh.lie
  exact h q _ (ne_of e hh.top (fun z => nomatch z)) nl (ne_of e h2 (fun z => nomatch z)) e
def LnV (H : Hp) (v : V) (n : Line) : Prop := ∃ q, v = .ref q ∧ H q = some (.tup n.vals)
theorem LnV.same {H H' : Hp} (s : Same H H') {v : V} {n : Line} (h : LnV H v n) : LnV H' v n := let ⟨q, a, b⟩ := h; ⟨q, a, s _ _ b⟩
def LnAt (H : Hp) (a : Addr) (l : List Line) : Prop := ∃ vs, H a = some (.lst vs) ∧ All2 (LnV H) vs l
theorem LnAt.same {H H' : Hp} (s : Same H H') {a : Addr} {l : List Line} (h : LnAt H a l) : LnAt H' a l := let ⟨vs, x, y⟩ := h; ⟨vs, s _ _ x, y.mono fun _ _ z => z.same s⟩
theorem LnAt.off {o l d : Addr} {H H' : Hp} {S : De} (h : Off o l d H H') (hh : Here H o l d S) {a : Addr} {ls : List Line} (nl : a ≠ l) (e : LnAt H a ls) : LnAt H' a ls :=
  let ⟨vs, x, y⟩ := e
  ⟨vs, h.ls hh nl x, y.mono fun _ _ ⟨q, z, u⟩ => ⟨q, z, h.tup hh u⟩⟩
theorem LnAt.snoc {H : Hp} {D : Addr} {vs : List V} {l : List Line} {v : V} {e : Line} (h : LnAt H D l) (hv : H D = some (.lst vs)) (he : LnV H v e) : LnAt (upd H D (.lst (vs ++ [v]))) D (l ++ [e]) := by
  obtain ⟨ws, hw, ha⟩ := h
  rw [hv] at hw
  cases (HO.lst.inj (Option.some.inj hw))
  have keep : ∀ {u : V} {e : Line}, LnV H u e → LnV (upd H D (.lst (vs ++ [v]))) u e := by
    rintro u e ⟨q, e1, e2⟩
    exact ⟨q, e1, by rw [upd_ne (ne_of e2 hv (fun z => nomatch z))]; exact e2⟩
  exact ⟨_, upd_same, All2.app (ha.mono fun _ _ z => keep z) (All2.cons (keep he) All2.nil)⟩
theorem LnAt.upd {H : Hp} {D a : Addr} {vs : List V} {x : HO} {l : List Line} (h : LnAt H D l) (ne : D ≠ a) (hv : H a = some (.lst vs)) : LnAt (L2.upd H a x) D l := by
  obtain ⟨ws, hw, ha⟩ := h
  refine ⟨ws, by rw [upd_ne ne]; exact hw, ha.mono ?_⟩
  rintro u e ⟨q, e1, e2⟩
  exact ⟨q, e1, by rw [upd_ne (ne_of e2 hv (fun z => nomatch z))]; exact e2⟩
/-- none of the lists that lie is one of these -/
def Avoid (H : Hp) (d : Addr) (R : Addr → Prop) : Prop := ∀ kvs, H d = some (.dT kvs) → ∀ (p t : Nat) (a : Addr), valV kvs (ty p t) = some (.ref a) → ¬ R a
/-- those that are there are still avoided -/
def Still (H H' : Hp) (d : Addr) : Prop := ∀ R : Addr → Prop, (∀ a, R a → ∃ x, H a = some x) → Avoid H d R → Avoid H' d R
theorem Avoid.eq {H H' : Hp} {d : Addr} {R : Addr → Prop} (h : Avoid H d R) (e : H' d = H d) : Avoid H' d R := fun kvs z => h kvs (by rw [← e]; exact z)
theorem Still.same {H H' : Hp} {o l d : Addr} {S : De} (hh : Here H o l d S) (e : Same H H') : Still H H' d := fun R _ h => by
  obtain ⟨kvs, h1, _⟩ := hh.lie
  exact h.eq (by rw [e _ _ h1, h1])
theorem Still.trans {H H' H2 : Hp} {d : Addr} (h : Still H H' d) (k : Still H' H2 d) (g : ∀ a x, H a = some x → ∃ y, H' a = some y) : Still H H2 d := fun R r v => k R (fun a z => let ⟨x, e⟩ := r a z; g a x e) (h R r v)
theorem Here.new {H : Hp} {o l d : Addr} {S : De} (h : Here H o l d S) {F : Addr} (n : H F = Option.none) : Avoid H d (· = F) := by
  obtain ⟨kvs, h1, _, h2⟩ := h.lie
  intro kvs' e p t a ev z
  rw [h1] at e
  cases (HO.dT.inj (Option.some.inj e))
  have y := h2 p t
  rw [ev] at y
  obtain ⟨b, e1, _, e2⟩ := y
  cases e1
  rw [z, LsAt, n] at e2
  cases e2
/-- what is done at others leaves it -/
theorem Here.frame {H H' : Hp} {o l d : Addr} {S : De} {R : Addr → Prop} (h : Here H o l d S) (f : ∀ a x, ¬ R a → H a = some x → H' a = some x) (n1 : ¬ R o) (n2 : ¬ R l) (n3 : ¬ R d) (nt : ∀ a xs, R a → H a ≠ some (.tup xs)) (av : Avoid H d R) : Here H' o l d S := by
  obtain ⟨vs, h1, h2⟩ := h.puts
  obtain ⟨kvs, h3, h4, h5⟩ := h.lie
  refine ⟨f _ _ n1 h.top, ⟨vs, f _ _ n2 h1, h2.mono ?_⟩, ⟨kvs, f _ _ n3 h3, h4, fun p t => ?_⟩, h.few, h.lens⟩
  · rintro v w ⟨q, e1, e2⟩
    exact ⟨q, e1, f _ _ (fun z => nt _ _ z e2) e2⟩
  · have z := h5 p t
    have k := av kvs h3 p t
    cases ev : valV kvs (ty p t) with
    | none =>
      rw [ev] at z
      exact z
    | some v =>
      rw [ev] at z k
      obtain ⟨b, e1, e2, e3⟩ := z
      exact ⟨b, e1, e2, f _ _ (k b (by rw [e1])) e3⟩
/-- a list of one's own is changed -/
theorem Here.chg {H : Hp} {o l d F : Addr} {S : De} {vs : List V} {x : HO} (h : Here H o l d S) (n : F ≠ l) (e : H F = some (.lst vs)) (av : Avoid H d (· = F)) : Here (upd H F x) o l d S ∧ (∀ R, Avoid H d R → Avoid (upd H F x) d R) := by
  obtain ⟨kvs, h3, _⟩ := h.lie
  have nd : d ≠ F := ne_of h3 e (fun z => nomatch z)
  refine ⟨h.frame (R := (· = F)) ?_ (ne_of h.top e (fun z => nomatch z)) (Ne.symm n) nd ?_ av, fun R z => z.eq (upd_ne nd)⟩
  · intro a y na ea
    rw [upd_ne na]
    exact ea
  · intro a xs ea z
    rw [show a = F from ea, e] at z
    cases z
theorem still_put {H H3 : Hp} {o l d a : Addr} {S : De} {kvs : List (List Key × V)} {p t : Nat} (h : Here H o l d S) (e : H d = some (.dT kvs)) (new : ∀ b x, H b = some x → b ≠ a) : Still H (upd H3 d (.dT (putK kvs (ty p t) (.ref a)))) d := by
  intro R r av kvs' e' p' t' b eb rb
  rw [upd_same] at e'
  cases (HO.dT.inj (Option.some.inj e'))
  rw [valV_put] at eb
  split at eb
  · have eb' : a = b := V.ref.inj (Option.some.inj eb)
    obtain ⟨x, ex⟩ := r b rb
    exact new b x ex eb'.symm
  · exact av kvs e p' t' b eb rb
theorem Off.there {o l d : Addr} {H H2 : Hp} {S : De} (h : Off o l d H H2) (hh : Here H2 o l d S) : ∀ c x, H c = some x → ∃ y, H2 c = some y := by
  intro c x e
  by_cases c1 : c = o
  · rw [c1]
    exact ⟨_, hh.top⟩
  by_cases c2 : c = l
  · obtain ⟨vs, hv, _⟩ := hh.puts
    rw [c2]
    exact ⟨_, hv⟩
  by_cases c3 : c = d
  · obtain ⟨kvs, hv, _⟩ := hh.lie
    rw [c3]
    exact ⟨_, hv⟩
  exact ⟨x, h c x c1 c2 c3 e⟩
theorem Off.gone {o l d : Addr} {H H2 : Hp} {S : De} (h : Off o l d H H2) (hh : Here H2 o l d S) {c : Addr} (e : H2 c = Option.none) : H c = Option.none := by
  cases q : H c with
  | none => rfl
  | some x =>
    obtain ⟨y, ey⟩ := h.there hh c x q
    rw [ey] at e
    cases e
theorem De.Ok.above {fr : List Int} {S : De} (h : S.Ok fr) (fo : FrOk fr) {p u : Nat} (hp : p < S.n) (hu : u ≤ fr.length) (hc : chain fr (S.row (fr.length + 1) p) u = Option.none) : ∃ k, S.now p u = some k := by
  by_cases u0 : u = 0
  · subst u0
    cases e : S.now p 0 with
    | none => exact absurd (List.getLast?_eq_none_iff.mp e) (h.src p hp)
    | some k => exact ⟨k, rfl⟩
  · exact De.fresh_now fo (by omega) hu hc
theorem De.Ok.tx {fr : List Int} {S : De} (h : S.Ok fr) {p t : Nat} {k : Int} (e : S.now p t = some k) : TxOk (S.tx p t) := by
  obtain ⟨k0, u, eu, _, _⟩ := h.num.now e
  unfold De.tx
  rw [e]
  show TxOk (S.pt k).x
  rw [De.pt_at eu]
  exact (h.each _ u eu).2.2.1
theorem De.Ok.found {fr : List Int} {S : De} (h : S.Ok fr) (fo : FrOk fr) {p t i : Nat} (t0 : 0 < t) (t1 : t ≤ fr.length) {x : Str} (hx : x ∈ S.found fr p t i) : TxOk x := by
  unfold De.found at hx
  obtain ⟨q, hq, rfl⟩ := List.mem_map.mp hx
  have hl := (List.mem_filter.mp hq).2
  unfold De.like at hl
  simp only [Bool.and_eq_true] at hl
  have hc : chain fr (S.row (fr.length + 1) q) t = Option.none := Option.isNone_iff_eq_none.mp hl.2.2.2.2
  obtain ⟨k, ek⟩ := De.fresh_now fo t0 t1 hc
  exact h.tx ek
/-- filled, or not -/
theorem De.fill_yes {fr : List Int} {t p : Nat} {A : De × List Int × List Line} {x : Str} (h1 : chain fr (A.1.row (fr.length + 1) p) (up fr t) = Option.none) (h2 : chain fr (A.1.row (fr.length + 1) p) t ≠ Option.none) (h3 : onlyOf (A.1.found fr p t A.1.n) = some x) :
    De.fillOne fr t A p = (A.1.lay p t x (A.1.now p (up fr t)), A.2.1 ++ [(p : Int)], A.2.2 ++ [.put p t x (A.1.now p (up fr t)) (A.1.now p t) (A.1.puts.length : Int)]) := by
  unfold De.fillOne
  rw [if_pos (by rw [h1, Option.isSome_iff_ne_none.mpr h2]; rfl), h3]
theorem De.fill_no {fr : List Int} {t p : Nat} {A : De × List Int × List Line} (h : chain fr (A.1.row (fr.length + 1) p) (up fr t) ≠ Option.none ∨ chain fr (A.1.row (fr.length + 1) p) t = Option.none ∨ onlyOf (A.1.found fr p t A.1.n) = Option.none) : De.fillOne fr t A p = A := by
  unfold De.fillOne
  by_cases c : ((chain fr (A.1.row (fr.length + 1) p) (up fr t)).isNone && (chain fr (A.1.row (fr.length + 1) p) t).isSome) = true
  · rw [if_pos c]
    rw [Bool.and_eq_true] at c
    rcases h with z | z | z
    · exact absurd (Option.isNone_iff_eq_none.mp c.1) z
    · exact absurd z (Option.isSome_iff_ne_none.mp c.2)
    · rw [z]
  · rw [if_neg c]
structure FillOk (fr : List Int) (S : De) (i : Nat) (A : De × List Int × List Line) : Prop where
  ok : A.1.Ok fr
  n : A.1.n = S.n
  len : A.1.puts.length ≤ S.puts.length + i
  f : A.2.1.length ≤ i
  l : A.2.2.length ≤ i
theorem fillTo_ok {fr : List Int} {S : De} (h : S.Ok fr) (fo : FrOk fr) {t : Nat} (t0 : 0 < t) (t1 : t ≤ fr.length) : ∀ i, i ≤ S.n → FillOk fr S i (S.fillTo fr t i)
  | 0, _ => ⟨h, rfl, Nat.le_refl _, Nat.le_refl _, Nat.le_refl _⟩
  | i + 1, hi => by
    have ih := fillTo_ok h fo t0 t1 i (by omega)
    rw [De.fillTo_succ]
    generalize S.fillTo fr t i = A at ih ⊢
    have up1 := up_lt fo t0 t1
    have no : De.fillOne fr t A i = A → FillOk fr S (i + 1) (De.fillOne fr t A i) := by
      intro e
      rw [e]
      have h1 := ih.len
      have h2 := ih.f
      have h3 := ih.l
      exact ⟨ih.ok, ih.n, by omega, by omega, by omega⟩
    by_cases c1 : chain fr (A.1.row (fr.length + 1) i) (up fr t) = Option.none
    · by_cases c2 : chain fr (A.1.row (fr.length + 1) i) t = Option.none
      · exact no (De.fill_no (.inr (.inl c2)))
      · cases c3 : onlyOf (A.1.found fr i t A.1.n) with
        | none => exact no (De.fill_no (.inr (.inr c3)))
        | some x =>
          have hn := ih.n
          obtain ⟨k, ek⟩ := ih.ok.above fo (p := i) (by omega) (by omega) c1
          rw [De.fill_yes c1 c2 c3]
          refine ⟨ih.ok.lay (by omega) t1 (ih.ok.found fo t0 t1 ((onlyOf_some c3 x).mpr rfl)) ⟨fun z => by omega, fun _ => ?_⟩, ih.n, ?_, ?_, ?_⟩
          · obtain ⟨j, ej, v, e1, e2, e3⟩ := ih.ok.seen_now ek
            exact ⟨j, by rw [ek, ej], v, e1, e2, e3⟩
          · have h1 := ih.len
            show (A.1.puts ++ [_]).length ≤ _
            rw [List.length_append, List.length_singleton]
            omega
          · have h1 := ih.f
            show (A.2.1 ++ [_]).length ≤ _
            rw [List.length_append, List.length_singleton]
            omega
          · have h1 := ih.l
            show (A.2.2 ++ [_]).length ≤ _
            rw [List.length_append, List.length_singleton]
            omega
    · exact no (De.fill_no (.inl c1))
/-- what comes can be -/
theorem De.Ok.come {fr : List Int} {S : De} (h : S.Ok fr) (fo : FrOk fr) {dd : Deed} (m : S.May fr dd) : (S.come fr dd).1.Ok fr ∧ (S.come fr dd).1.puts.length ≤ S.puts.length + 6 := by
  cases dd with
  | phrase x =>
    refine ⟨h.phrase m.1 m.2, ?_⟩
    show (S.puts ++ [_]).length ≤ _
    rw [List.length_append, List.length_singleton]
    omega
  | put p t x s o =>
    obtain ⟨h1, h2, h3, _, h5⟩ := m
    refine ⟨h.lay h1 h2 h3 h5, ?_⟩
    show (S.puts ++ [_]).length ≤ _
    rw [List.length_append, List.length_singleton]
    omega
  | back p t => exact ⟨h.off m.2.2, Nat.le_add_right _ _⟩
  | fill t =>
    have z := fillTo_ok h fo m.1 m.2 S.n (Nat.le_refl _)
    have z1 := z.len
    have z2 := h.six
    exact ⟨z.ok, show (S.fillTo fr t S.n).1.puts.length ≤ _ by omega⟩
end PD

/-! Phrasedesk: tales -/
namespace PD
open PySem PySem.Spec PyProof.Rows L2
inductive Tl where
  | phrase (p : Int) (x : Str) (k : Int)
  | put (p t : Int) (x : Str) (s o : Option Int) (k : Int)
  | back (p t k : Int)
def Tl.vals : Tl → List V
  | .phrase p x k => [.str "phrase", .int p, .str x, .int k]
  | .put p t x s o k => [.str "put", .int p, .int t, .str x, oV s, oV o, .int k]
  | .back p t k => [.str "back", .int p, .int t, .int k]
def lowS (x : Str) : Prop := ∀ c ∈ x.cps.toList, 97 ≤ c ∧ c ≤ 122
def Tl.Low : Tl → Prop
  | .phrase _ x _ => lowS x ∧ x.length ≤ 5000
  | .put _ _ x _ _ _ => lowS x ∧ x.length ≤ 5000
  | .back _ _ _ => True
def lenOk (x : Str) : Bool := decide (1 ≤ x.length) && decide (x.length ≤ 6)
theorem tx_len {x : Str} (l : lowS x) (h : lenOk x = true) : TxOk x := by
  unfold lenOk at h
  rw [Bool.and_eq_true] at h
  exact ⟨of_decide_eq_true h.1, of_decide_eq_true h.2, l⟩
def inPT (fr : List Int) (S : De) (p t : Int) : Bool := (decide (0 ≤ p) && decide (p < (S.n : Int))) && (decide (0 ≤ t) && decide (t ≤ (fr.length : Int)))
def De.seens (fr : List Int) (S : De) (p t : Nat) : List (Option Int) := if t = 0 then [Option.none] else (S.ever p (up fr t)).map fun e => some e.1
def De.fits (fr : List Int) (S : De) : Tl → Bool
  | .phrase p x k => (decide (p = (S.n : Int)) && decide ((S.n : Int) < 6)) && (lenOk x && decide (k = (S.puts.length : Int)))
  | .back p t k => inPT fr S p t && (decide ((if t.toNat = 0 then 1 else 0) < (S.lie p.toNat t.toNat).length) && decide (some k = S.now p.toNat t.toNat))
  | .put p t x s o k => inPT fr S p t && (lenOk x && (decide (s ∈ S.seens fr p.toNat t.toNat) && (decide (o = S.now p.toNat t.toNat) && decide (k = (S.puts.length : Int)))))
def Tl.deed : Tl → Deed
  | .phrase _ x _ => .phrase x
  | .put p t x s o _ => .put p.toNat t.toNat x s o
  | .back p t _ => .back p.toNat t.toNat
def wrongFrom (fr : List Int) : De → Nat → List Tl → Option Nat
  | _, _, [] => Option.none
  | S, i, n :: r => if S.fits fr n then wrongFrom fr (S.come fr n.deed).1 (i + 1) r else some i
theorem inPT_iff {fr : List Int} {S : De} {p t : Int} (h : inPT fr S p t = true) : 0 ≤ p ∧ p < (S.n : Int) ∧ 0 ≤ t ∧ t ≤ (fr.length : Int) := by
  unfold inPT at h
  simp only [Bool.and_eq_true, decide_eq_true_eq] at h
  exact ⟨h.1.1, h.1.2, h.2.1, h.2.2⟩
theorem De.fits_may {fr : List Int} {S : De} {n : Tl} (low : n.Low) (h : S.fits fr n = true) : S.May fr n.deed := by
  cases n with
  | phrase p x k =>
    unfold De.fits at h
    simp only [Bool.and_eq_true, decide_eq_true_eq] at h
    exact ⟨by have := h.1.2; omega, tx_len low.1 h.2.1⟩
  | back p t k =>
    have h' : (inPT fr S p t && (decide ((if t.toNat = 0 then 1 else 0) < (S.lie p.toNat t.toNat).length) && decide (some k = S.now p.toNat t.toNat))) = true := h
    rw [Bool.and_eq_true, Bool.and_eq_true] at h'
    obtain ⟨h1, h2, h3⟩ := h'
    obtain ⟨a, b, c, d⟩ := inPT_iff h1
    exact ⟨by omega, by omega, of_decide_eq_true h2⟩
  | put p t x s o k =>
    have h' : (inPT fr S p t && (lenOk x && (decide (s ∈ S.seens fr p.toNat t.toNat) && (decide (o = S.now p.toNat t.toNat) && decide (k = (S.puts.length : Int)))))) = true := h
    simp only [Bool.and_eq_true, decide_eq_true_eq] at h'
    obtain ⟨h1, h2, h3, h4, h5⟩ := h'
    obtain ⟨a, b, c, d⟩ := inPT_iff h1
    refine ⟨by omega, by omega, tx_len low.1 h2, h4, ?_, ?_⟩
    · intro z
      unfold De.seens at h3
      rw [if_pos z] at h3
      exact List.mem_singleton.mp h3
    · intro z
      unfold De.seens at h3
      rw [if_neg (by omega)] at h3
      obtain ⟨e, he, rfl⟩ := List.mem_map.mp h3
      obtain ⟨j, ej, v, h6⟩ := De.seen_ever he
      exact ⟨j, congrArg some ej, v, h6⟩
end PD

/-! Phrasedesk: a desk's state, as it lies in the program's own objects -/
namespace PD
open PySem PySem.Spec PyProof.Rows L2
theorem pe_fldK {X : Cx} {K : PySem.W.Frag} {e : Expr} {f : Str} {pos : Pos} {ta : TE} (hK : X.K = K) (he : PE X e ta) (hb : attributeBase e f X.env (eval e X.env) = eval e X.env) : PE X (.Attribute e f pos) (tFld K ta f) := by
  subst hK
  exact pe_fld he hb
/-- where a Past's things lie -/
structure PA where
  dx : Addr
  f : Addr
  tx : Addr
  og : Addr
  ev : Addr
  pi : Addr
  ekv : List (List Key × V)
  pkv : List (List Key × V)
  eA : Nat → Nat → Addr
  pA : Nat → Nat → Addr
abbrev pastF (n : Nat) (A : PA) : List (Str × V) := [("froms", .ref A.f), ("phrases", .int (n : Int)), ("texts", .ref A.tx), ("origins", .ref A.og), ("ever", .ref A.ev), ("piles", .ref A.pi)]
def setAt {α : Type} (g : Nat → Nat → α) (p t : Nat) (v : α) : Nat → Nat → α := fun p' t' => if p' = p ∧ t' = t then v else g p' t'
theorem setAt_same {α : Type} {g : Nat → Nat → α} {p t : Nat} {v : α} : setAt g p t v p t = v := by
  unfold setAt
  rw [if_pos ⟨rfl, rfl⟩]
theorem setAt_ne {α : Type} {g : Nat → Nat → α} {p t p' t' : Nat} {v : α} (h : ¬ (p' = p ∧ t' = t)) : setAt g p t v p' t' = g p' t' := by
  unfold setAt
  rw [if_neg h]
structure Raw (H : Hp) (C a : Addr) (fr : List Int) (n : Nat) (xs os : List V) (E : Nat → Nat → List (Key × V)) (L : Nat → Nat → List Int) (DE DP : Nat → Nat → Prop) (A : PA) : Prop where
  obj : H a = some (.ins C A.dx (pastF n A))
  frm : LsAt H A.f fr
  tx : H A.tx = some (.lst xs)
  og : H A.og = some (.lst os)
  ev : H A.ev = some (.dT A.ekv)
  pi : H A.pi = some (.dT A.pkv)
  evs : ∀ p t, DE p t → valV A.ekv (ty p t) = some (.ref (A.eA p t)) ∧ H (A.eA p t) = some (.dK (E p t))
  pis : ∀ p t, DP p t → valV A.pkv (ty p t) = some (.ref (A.pA p t)) ∧ LsAt H (A.pA p t) (L p t)
  n1 : A.tx ≠ A.og
  n2 : A.f ≠ A.tx
  n3 : A.f ≠ A.og
  n4 : A.ev ≠ A.pi
  n5 : ∀ p t, DP p t → A.pA p t ≠ A.f ∧ A.pA p t ≠ A.tx ∧ A.pA p t ≠ A.og
  i1 : ∀ p t p' t', DP p t → DP p' t' → A.pA p t = A.pA p' t' → p = p' ∧ t = t'
  i2 : ∀ p t p' t', DE p t → DE p' t' → A.eA p t = A.eA p' t' → p = p' ∧ t = t'
/-- its own addresses -/
def Foot (a : Addr) (DE DP : Nat → Nat → Prop) (A : PA) (x : Addr) : Prop := x = a ∨ x = A.f ∨ x = A.tx ∨ x = A.og ∨ x = A.ev ∨ x = A.pi ∨ (∃ p t, DE p t ∧ x = A.eA p t) ∨ ∃ p t, DP p t ∧ x = A.pA p t
section
variable {H H' : Hp} {C a : Addr} {fr : List Int} {n : Nat} {xs os : List V} {E : Nat → Nat → List (Key × V)} {L : Nat → Nat → List Int} {DE DP : Nat → Nat → Prop} {A : PA}
theorem Raw.keep (h : Raw H C a fr n xs os E L DE DP A) (k : ∀ x o, Foot a DE DP A x → H x = some o → H' x = some o) : Raw H' C a fr n xs os E L DE DP A :=
  ⟨k _ _ (.inl rfl) h.obj, k _ _ (.inr (.inl rfl)) h.frm, k _ _ (.inr (.inr (.inl rfl))) h.tx, k _ _ (.inr (.inr (.inr (.inl rfl)))) h.og, k _ _ (.inr (.inr (.inr (.inr (.inl rfl))))) h.ev, k _ _ (.inr (.inr (.inr (.inr (.inr (.inl rfl)))))) h.pi,
   fun p t d => ⟨(h.evs p t d).1, k _ _ (.inr (.inr (.inr (.inr (.inr (.inr (.inl ⟨p, t, d, rfl⟩))))))) (h.evs p t d).2⟩, fun p t d => ⟨(h.pis p t d).1, k _ _ (.inr (.inr (.inr (.inr (.inr (.inr (.inr ⟨p, t, d, rfl⟩))))))) (h.pis p t d).2⟩, h.n1, h.n2, h.n3, h.n4, h.n5, h.i1, h.i2⟩
theorem Raw.same (s : Same H H') (h : Raw H C a fr n xs os E L DE DP A) : Raw H' C a fr n xs os E L DE DP A := h.keep fun _ _ _ e => s _ _ e
/-- none of its own is a tuple, all are there -/
theorem Raw.foot (h : Raw H C a fr n xs os E L DE DP A) {x : Addr} (hx : Foot a DE DP A x) : ∃ o, H x = some o ∧ ∀ ys, o ≠ .tup ys := by
  rcases hx with rfl | rfl | rfl | rfl | rfl | rfl | ⟨p, t, d, rfl⟩ | ⟨p, t, d, rfl⟩
  · exact ⟨_, h.obj, fun _ z => nomatch z⟩
  · exact ⟨_, h.frm, fun _ z => nomatch z⟩
  · exact ⟨_, h.tx, fun _ z => nomatch z⟩
  · exact ⟨_, h.og, fun _ z => nomatch z⟩
  · exact ⟨_, h.ev, fun _ z => nomatch z⟩
  · exact ⟨_, h.pi, fun _ z => nomatch z⟩
  · exact ⟨_, (h.evs p t d).2, fun _ z => nomatch z⟩
  · exact ⟨_, (h.pis p t d).2, fun _ z => nomatch z⟩
theorem Raw.setTx (h : Raw H C a fr n xs os E L DE DP A) (ys : List V) : Raw (upd H A.tx (.lst ys)) C a fr n ys os E L DE DP A := by
  refine ⟨?_, ?_, upd_same, ?_, ?_, ?_, fun p t d => ⟨(h.evs p t d).1, ?_⟩, fun p t d => ⟨(h.pis p t d).1, ?_⟩, h.n1, h.n2, h.n3, h.n4, h.n5, h.i1, h.i2⟩
  · rw [upd_ne (ne_of h.obj h.tx (fun z => nomatch z))]; exact h.obj
  · unfold LsAt; rw [upd_ne h.n2]; exact h.frm
  · rw [upd_ne (Ne.symm h.n1)]; exact h.og
  · rw [upd_ne (ne_of h.ev h.tx (fun z => nomatch z))]; exact h.ev
  · rw [upd_ne (ne_of h.pi h.tx (fun z => nomatch z))]; exact h.pi
  · rw [upd_ne (ne_of (h.evs p t d).2 h.tx (fun z => nomatch z))]; exact (h.evs p t d).2
  · unfold LsAt; rw [upd_ne (h.n5 p t d).2.1]; exact (h.pis p t d).2
theorem Raw.setOg (h : Raw H C a fr n xs os E L DE DP A) (ys : List V) : Raw (upd H A.og (.lst ys)) C a fr n xs ys E L DE DP A := by
  refine ⟨?_, ?_, ?_, upd_same, ?_, ?_, fun p t d => ⟨(h.evs p t d).1, ?_⟩, fun p t d => ⟨(h.pis p t d).1, ?_⟩, h.n1, h.n2, h.n3, h.n4, h.n5, h.i1, h.i2⟩
  · rw [upd_ne (ne_of h.obj h.og (fun z => nomatch z))]; exact h.obj
  · unfold LsAt; rw [upd_ne h.n3]; exact h.frm
  · rw [upd_ne h.n1]; exact h.tx
  · rw [upd_ne (ne_of h.ev h.og (fun z => nomatch z))]; exact h.ev
  · rw [upd_ne (ne_of h.pi h.og (fun z => nomatch z))]; exact h.pi
  · rw [upd_ne (ne_of (h.evs p t d).2 h.og (fun z => nomatch z))]; exact (h.evs p t d).2
  · unfold LsAt; rw [upd_ne (h.n5 p t d).2.2]; exact (h.pis p t d).2
theorem Raw.setEv (h : Raw H C a fr n xs os E L DE DP A) {p t : Nat} (d : DE p t) (kv : List (Key × V)) : Raw (upd H (A.eA p t) (.dK kv)) C a fr n xs os (setAt E p t kv) L DE DP A := by
  have he := (h.evs p t d).2
  refine ⟨?_, ?_, ?_, ?_, ?_, ?_, fun p' t' d' => ⟨(h.evs p' t' d').1, ?_⟩, fun p' t' d' => ⟨(h.pis p' t' d').1, ?_⟩, h.n1, h.n2, h.n3, h.n4, h.n5, h.i1, h.i2⟩
  · rw [upd_ne (ne_of h.obj he (fun z => nomatch z))]; exact h.obj
  · unfold LsAt; rw [upd_ne (ne_of h.frm he (fun z => nomatch z))]; exact h.frm
  · rw [upd_ne (ne_of h.tx he (fun z => nomatch z))]; exact h.tx
  · rw [upd_ne (ne_of h.og he (fun z => nomatch z))]; exact h.og
  · rw [upd_ne (ne_of h.ev he (fun z => nomatch z))]; exact h.ev
  · rw [upd_ne (ne_of h.pi he (fun z => nomatch z))]; exact h.pi
  · by_cases c : p' = p ∧ t' = t
    · rw [c.1, c.2, upd_same, setAt_same]
    · rw [upd_ne (fun z => c (h.i2 _ _ _ _ d' d z)), setAt_ne c]
      exact (h.evs p' t' d').2
  · unfold LsAt; rw [upd_ne (ne_of (h.pis p' t' d').2 he (fun z => nomatch z))]; exact (h.pis p' t' d').2
theorem Raw.setPi (h : Raw H C a fr n xs os E L DE DP A) {p t : Nat} (d : DP p t) (ns : List Int) : Raw (upd H (A.pA p t) (.lst (ns.map V.int))) C a fr n xs os E (setAt L p t ns) DE DP A := by
  have he := (h.pis p t d).2
  obtain ⟨m1, m2, m3⟩ := h.n5 p t d
  refine ⟨?_, ?_, ?_, ?_, ?_, ?_, fun p' t' d' => ⟨(h.evs p' t' d').1, ?_⟩, fun p' t' d' => ⟨(h.pis p' t' d').1, ?_⟩, h.n1, h.n2, h.n3, h.n4, h.n5, h.i1, h.i2⟩
  · rw [upd_ne (ne_of h.obj he (fun z => nomatch z))]; exact h.obj
  · unfold LsAt; rw [upd_ne (Ne.symm m1)]; exact h.frm
  · rw [upd_ne (Ne.symm m2)]; exact h.tx
  · rw [upd_ne (Ne.symm m3)]; exact h.og
  · rw [upd_ne (ne_of h.ev he (fun z => nomatch z))]; exact h.ev
  · rw [upd_ne (ne_of h.pi he (fun z => nomatch z))]; exact h.pi
  · rw [upd_ne (ne_of (h.evs p' t' d').2 he (fun z => nomatch z))]; exact (h.evs p' t' d').2
  · by_cases c : p' = p ∧ t' = t
    · rw [c.1, c.2, setAt_same]; exact upd_same
    · unfold LsAt
      rw [upd_ne (fun z => c (h.i1 _ _ _ _ d' d z)), setAt_ne c]
      exact (h.pis p' t' d').2
theorem Raw.setN (h : Raw H C a fr n xs os E L DE DP A) (m : Nat) : Raw (upd H a (.ins C A.dx (pastF m A))) C a fr m xs os E L DE DP A := by
  refine ⟨upd_same, ?_, ?_, ?_, ?_, ?_, fun p t d => ⟨(h.evs p t d).1, ?_⟩, fun p t d => ⟨(h.pis p t d).1, ?_⟩, h.n1, h.n2, h.n3, h.n4, h.n5, h.i1, h.i2⟩
  · unfold LsAt; rw [upd_ne (ne_of h.frm h.obj (fun z => nomatch z))]; exact h.frm
  · rw [upd_ne (ne_of h.tx h.obj (fun z => nomatch z))]; exact h.tx
  · rw [upd_ne (ne_of h.og h.obj (fun z => nomatch z))]; exact h.og
  · rw [upd_ne (ne_of h.ev h.obj (fun z => nomatch z))]; exact h.ev
  · rw [upd_ne (ne_of h.pi h.obj (fun z => nomatch z))]; exact h.pi
  · rw [upd_ne (ne_of (h.evs p t d).2 h.obj (fun z => nomatch z))]; exact (h.evs p t d).2
  · unfold LsAt; rw [upd_ne (ne_of (h.pis p t d).2 h.obj (fun z => nomatch z))]; exact (h.pis p t d).2
def addD (D : Nat → Nat → Prop) (p t : Nat) : Nat → Nat → Prop := fun p' t' => D p' t' ∨ (p' = p ∧ t' = t)
theorem ty_ne {p t p' t' : Nat} (h : ¬ (p' = p ∧ t' = t)) : ty p' t' ≠ ty p t := fun z => h (ty_inj z)
theorem Raw.addE {e : Addr} (h : Raw H C a fr n xs os E L DE DP A) {p t : Nat} (d : ¬ DE p t) (s : Same H H') (ne : H e = none) (he : H' e = some (.dK [])) :
    Raw (upd H' A.ev (.dT (putK A.ekv (ty p t) (.ref e)))) C a fr n xs os (setAt E p t []) L (addD DE p t) DP { A with ekv := putK A.ekv (ty p t) (.ref e), eA := setAt A.eA p t e } := by
  have g := h.same s
  have nev : e ≠ A.ev := fun z => by rw [z, h.ev] at ne; cases ne
  have old : ∀ p' t', addD DE p t p' t' → ¬ (p' = p ∧ t' = t) → DE p' t' := fun p' t' z c => z.resolve_right c
  refine ⟨?_, ?_, ?_, ?_, upd_same, ?_, fun p' t' d' => ?_, fun p' t' d' => ⟨(g.pis p' t' d').1, ?_⟩, h.n1, h.n2, h.n3, h.n4, h.n5, h.i1, ?_⟩
  · rw [upd_ne (ne_of g.obj g.ev (fun z => nomatch z))]; exact g.obj
  · unfold LsAt; rw [upd_ne (ne_of g.frm g.ev (fun z => nomatch z))]; exact g.frm
  · rw [upd_ne (ne_of g.tx g.ev (fun z => nomatch z))]; exact g.tx
  · rw [upd_ne (ne_of g.og g.ev (fun z => nomatch z))]; exact g.og
  · rw [upd_ne (Ne.symm g.n4)]; exact g.pi
  · show valV (putK A.ekv (ty p t) (.ref e)) (ty p' t') = some (.ref (setAt A.eA p t e p' t')) ∧ (upd H' A.ev (.dT (putK A.ekv (ty p t) (.ref e)))) (setAt A.eA p t e p' t') = some (.dK (setAt E p t [] p' t'))
    rw [valV_put]
    by_cases c : p' = p ∧ t' = t
    · rw [c.1, c.2, if_pos rfl, setAt_same, setAt_same, upd_ne nev]
      exact ⟨rfl, he⟩
    · have dd := old p' t' d' c
      rw [if_neg (ty_ne c), setAt_ne c, setAt_ne c, upd_ne (ne_of (g.evs p' t' dd).2 g.ev (fun z => nomatch z))]
      exact g.evs p' t' dd
  · unfold LsAt; rw [upd_ne (ne_of (g.pis p' t' d').2 g.ev (fun z => nomatch z))]; exact (g.pis p' t' d').2
  · intro p1 t1 p2 t2 d1 d2 z
    have z' : setAt A.eA p t e p1 t1 = setAt A.eA p t e p2 t2 := z
    by_cases c1 : p1 = p ∧ t1 = t
    · by_cases c2 : p2 = p ∧ t2 = t
      · exact ⟨c1.1.trans c2.1.symm, c1.2.trans c2.2.symm⟩
      · rw [c1.1, c1.2, setAt_same, setAt_ne c2] at z'
        have := (h.evs p2 t2 (old _ _ d2 c2)).2
        rw [← z', ne] at this
        cases this
    · by_cases c2 : p2 = p ∧ t2 = t
      · rw [c2.1, c2.2, setAt_same, setAt_ne c1] at z'
        have := (h.evs p1 t1 (old _ _ d1 c1)).2
        rw [z', ne] at this
        cases this
      · rw [setAt_ne c1, setAt_ne c2] at z'
        exact h.i2 _ _ _ _ (old _ _ d1 c1) (old _ _ d2 c2) z'
theorem Raw.addP {e : Addr} (h : Raw H C a fr n xs os E L DE DP A) {p t : Nat} (d : ¬ DP p t) (s : Same H H') (ne : H e = none) (he : H' e = some (.lst [])) :
    Raw (upd H' A.pi (.dT (putK A.pkv (ty p t) (.ref e)))) C a fr n xs os E (setAt L p t []) DE (addD DP p t) { A with pkv := putK A.pkv (ty p t) (.ref e), pA := setAt A.pA p t e } := by
  have g := h.same s
  have nev : e ≠ A.pi := fun z => by rw [z, h.pi] at ne; cases ne
  have old : ∀ p' t', addD DP p t p' t' → ¬ (p' = p ∧ t' = t) → DP p' t' := fun p' t' z c => z.resolve_right c
  refine ⟨?_, ?_, ?_, ?_, ?_, upd_same, fun p' t' d' => ⟨(g.evs p' t' d').1, ?_⟩, fun p' t' d' => ?_, h.n1, h.n2, h.n3, h.n4, ?_, ?_, h.i2⟩
  · rw [upd_ne (ne_of g.obj g.pi (fun z => nomatch z))]; exact g.obj
  · unfold LsAt; rw [upd_ne (ne_of g.frm g.pi (fun z => nomatch z))]; exact g.frm
  · rw [upd_ne (ne_of g.tx g.pi (fun z => nomatch z))]; exact g.tx
  · rw [upd_ne (ne_of g.og g.pi (fun z => nomatch z))]; exact g.og
  · rw [upd_ne g.n4]; exact g.ev
  · rw [upd_ne (ne_of (g.evs p' t' d').2 g.pi (fun z => nomatch z))]; exact (g.evs p' t' d').2
  · show valV (putK A.pkv (ty p t) (.ref e)) (ty p' t') = some (.ref (setAt A.pA p t e p' t')) ∧ LsAt (upd H' A.pi (.dT (putK A.pkv (ty p t) (.ref e)))) (setAt A.pA p t e p' t') (setAt L p t [] p' t')
    rw [valV_put]
    by_cases c : p' = p ∧ t' = t
    · rw [c.1, c.2, if_pos rfl, setAt_same, setAt_same]
      unfold LsAt
      rw [upd_ne nev]
      exact ⟨rfl, he⟩
    · have dd := old p' t' d' c
      rw [if_neg (ty_ne c), setAt_ne c, setAt_ne c]
      unfold LsAt
      rw [upd_ne (ne_of (g.pis p' t' dd).2 g.pi (fun z => nomatch z))]
      exact g.pis p' t' dd
  · intro p' t' d'
    show setAt A.pA p t e p' t' ≠ A.f ∧ setAt A.pA p t e p' t' ≠ A.tx ∧ setAt A.pA p t e p' t' ≠ A.og
    by_cases c : p' = p ∧ t' = t
    · rw [c.1, c.2, setAt_same]
      exact ⟨Ne.symm (ne_of_none h.frm ne), Ne.symm (ne_of_none h.tx ne), Ne.symm (ne_of_none h.og ne)⟩
    · rw [setAt_ne c]
      exact h.n5 _ _ (old _ _ d' c)
  · intro p1 t1 p2 t2 d1 d2 z
    have z' : setAt A.pA p t e p1 t1 = setAt A.pA p t e p2 t2 := z
    by_cases c1 : p1 = p ∧ t1 = t
    · by_cases c2 : p2 = p ∧ t2 = t
      · exact ⟨c1.1.trans c2.1.symm, c1.2.trans c2.2.symm⟩
      · rw [c1.1, c1.2, setAt_same, setAt_ne c2] at z'
        have := (h.pis p2 t2 (old _ _ d2 c2)).2
        rw [← z', LsAt, ne] at this
        cases this
    · by_cases c2 : p2 = p ∧ t2 = t
      · rw [c2.1, c2.2, setAt_same, setAt_ne c1] at z'
        have := (h.pis p1 t1 (old _ _ d1 c1)).2
        rw [z', LsAt, ne] at this
        cases this
      · rw [setAt_ne c1, setAt_ne c2] at z'
        exact h.i1 _ _ _ _ (old _ _ d1 c1) (old _ _ d2 c2) z'
theorem Raw.congr {n' : Nat} {xs' os' : List V} {E' : Nat → Nat → List (Key × V)} {L' : Nat → Nat → List Int} {DE' DP' : Nat → Nat → Prop} (h : Raw H C a fr n xs os E L DE DP A) (e1 : n' = n) (e2 : xs' = xs) (e3 : os' = os)
    (e4 : ∀ p t, DE' p t → DE p t ∧ E' p t = E p t) (e5 : ∀ p t, DP' p t → DP p t ∧ L' p t = L p t) : Raw H C a fr n' xs' os' E' L' DE' DP' A := by
  subst e1 e2 e3
  exact ⟨h.obj, h.frm, h.tx, h.og, h.ev, h.pi, fun p t d => by rw [(e4 p t d).2]; exact h.evs p t (e4 p t d).1, fun p t d => by rw [(e5 p t d).2]; exact h.pis p t (e5 p t d).1, h.n1, h.n2, h.n3, h.n4, fun p t d => h.n5 p t (e5 p t d).1,
    fun p t p' t' d d' => h.i1 p t p' t' (e5 p t d).1 (e5 p' t' d').1, fun p t p' t' d d' => h.i2 p t p' t' (e4 p t d).1 (e4 p' t' d').1⟩
end
/-! ### the state in a Past -/
def eK (S : De) (p t : Nat) : List (Key × V) := (S.ever p t).map fun e => ((Sum.inl e.1 : Key), V.bl true)
def Dom (fr : List Int) (n : Nat) : Nat → Nat → Prop := fun p t => p < n ∧ t ≤ fr.length
structure PastAt (H : Hp) (C a : Addr) (fr : List Int) (S : De) (A : PA) : Prop where
  raw : Raw H C a fr S.n (S.puts.map fun u => V.str u.x) (S.puts.map fun u => oV u.s) (eK S) S.lie (Dom fr S.n) (Dom fr S.n) A
  few : S.puts.length ≤ 5000
  lens : ∀ p t, (S.lie p t).length ≤ S.puts.length
  el : A.ekv.length ≤ 100 * S.n
  pl : A.pkv.length ≤ 100 * S.n
abbrev footP (a : Addr) (fr : List Int) (n : Nat) (A : PA) : Addr → Prop := Foot a (Dom fr n) (Dom fr n) A
section
variable {H H' : Hp} {C a : Addr} {fr : List Int} {S : De} {A : PA}
theorem PastAt.same (s : Same H H') (h : PastAt H C a fr S A) : PastAt H' C a fr S A := ⟨h.raw.same s, h.few, h.lens, h.el, h.pl⟩
theorem PastAt.keep (h : PastAt H C a fr S A) (k : ∀ x o, footP a fr S.n A x → H x = some o → H' x = some o) : PastAt H' C a fr S A := ⟨h.raw.keep k, h.few, h.lens, h.el, h.pl⟩
/-- nothing but its own is changed; what is there stays there -/
structure Only (F : Addr → Prop) (H H' : Hp) : Prop where
  out : ∀ x o, ¬ F x → H x = some o → H' x = some o
  grow : ∀ x o, H x = some o → ∃ u, H' x = some u
theorem only_same {F : Addr → Prop} (s : Same H H') : Only F H H' := ⟨fun x o _ e => s x o e, fun x o e => ⟨o, s x o e⟩⟩
theorem Only.trans {F : Addr → Prop} {H2 : Hp} (h : Only F H H') (k : Only F H' H2) : Only F H H2 := ⟨fun x o n e => k.out x o n (h.out x o n e), fun x o e => let ⟨u, z⟩ := h.grow x o e; k.grow x u z⟩
theorem grow_upd {H H' : Hp} {y : Addr} {o : HO} (h : ∀ x o, H x = some o → ∃ u, H' x = some u) : ∀ x v, H x = some v → ∃ u, (upd H' y o) x = some u := by
  intro x v e
  by_cases c : x = y
  · rw [c]
    exact ⟨_, upd_same⟩
  · rw [upd_ne c]
    exact h x v e
theorem Only.set {F : Addr → Prop} {y : Addr} {o : HO} (h : Only F H H') (fy : F y) : Only F H (upd H' y o) := ⟨fun x u n e => by
  have ne : x ≠ y := fun z => n (by rw [z]; exact fy)
  rw [upd_ne ne]
  exact h.out x u n e, grow_upd h.grow⟩
theorem Only.same {F : Addr → Prop} {H2 : Hp} (h : Only F H H') (k : Same H' H2) : Only F H H2 := h.trans (only_same k)
theorem Only.mono {F G : Addr → Prop} (h : Only F H H') (k : ∀ x, F x → G x) : Only G H H' := ⟨fun x o n e => h.out x o (fun z => n (k x z)) e, h.grow⟩
theorem Only.chg {F : Addr → Prop} {y : Addr} {o : HO} (h : Only F H H') (ny : H y = none) : Only F H (upd H' y o) := ⟨fun x u n e => by
  rw [upd_ne (ne_of_none e ny)]
  exact h.out x u n e, grow_upd h.grow⟩
theorem Only.free {F : Addr → Prop} {y : Addr} (h : Only F H H') (ny : H' y = none) : H y = none := by
  cases e : H y with
  | none => rfl
  | some o =>
    obtain ⟨u, eu⟩ := h.grow y o e
    rw [ny] at eu
    cases eu
theorem lookup_at {α : Type} {l : List α} {f : α → V} {k : Nat} {u : α} (h : l[k]? = some u) : (l.map f)[k]? = some (f u) := by
  rw [List.getElem?_map, h]
  rfl
theorem pf_froms (n : Nat) (A : PA) : (pastF n A).lookup ("froms" : Str) = some (.ref A.f) := rfl
theorem pf_phrases (n : Nat) (A : PA) : (pastF n A).lookup ("phrases" : Str) = some (.int (n : Int)) := rfl
theorem pf_texts (n : Nat) (A : PA) : (pastF n A).lookup ("texts" : Str) = some (.ref A.tx) := rfl
theorem pf_origins (n : Nat) (A : PA) : (pastF n A).lookup ("origins" : Str) = some (.ref A.og) := rfl
theorem pf_ever (n : Nat) (A : PA) : (pastF n A).lookup ("ever" : Str) = some (.ref A.ev) := rfl
theorem pf_piles (n : Nat) (A : PA) : (pastF n A).lookup ("piles" : Str) = some (.ref A.pi) := rfl
theorem pf_more (n : Nat) (A : PA) : putF ("phrases" : Str) (.int ((n : Int) + 1)) (pastF n A) = pastF (n + 1) A := rfl
theorem eK_none {k : Int} : ∀ {l : List (Int × Str)}, (∀ e ∈ l, e.1 ≠ k) → valV (l.map fun e => ((Sum.inl e.1 : Key), V.bl true)) (Sum.inl k) = none
  | [], _ => rfl
  | e :: r, h => by
    rw [List.map_cons, valV_neg (fun z => h e List.mem_cons_self (Sum.inl.inj z))]
    exact eK_none fun x hx => h x (List.mem_cons_of_mem _ hx)
theorem eK_has {k : Int} : ∀ {l : List (Int × Str)}, (valV (l.map fun e => ((Sum.inl e.1 : Key), V.bl true)) (Sum.inl k)).isSome = decide (k ∈ l.map (·.1))
  | [] => by simp [valV_nil]
  | e :: r => by
    rw [List.map_cons]
    by_cases c : e.1 = k
    · rw [valV_pos (by rw [c])]
      simp [c]
    · rw [valV_neg (fun z => c (Sum.inl.inj z)), eK_has]
      simp [Ne.symm c]
theorem ever_lt {p t : Nat} {e : Int × Str} (h : e ∈ S.ever p t) : e.1 < (S.puts.length : Int) := by
  obtain ⟨j, ej, v, e1, _⟩ := De.seen_ever h
  have := (List.getElem?_eq_some_iff.mp e1).1
  omega
theorem eK_lay {p t : Nat} {x : Str} {s : Option Int} (p' t' : Nat) : eK (S.lay p t x s) p' t' = setAt (eK S) p t (putK (eK S p t) (Sum.inl (S.puts.length : Int)) (V.bl true)) p' t' := by
  have ev : (S.lay p t x s).ever p' t' = S.ever p' t' ++ (if p = p' ∧ t = t' then [((S.puts.length : Int), x)] else []) := by
    show evG p' t' 0 (S.puts ++ [⟨p, t, x, s⟩]) = _
    rw [evG_snoc, Nat.zero_add]
    rfl
  have new : valV (eK S p t) (Sum.inl (S.puts.length : Int)) = none := eK_none fun e he => by
    have := ever_lt he
    omega
  unfold setAt
  by_cases c : p' = p ∧ t' = t
  · rw [if_pos c, c.1, c.2, putK_new _ new]
    unfold eK
    rw [c.1, c.2, if_pos ⟨rfl, rfl⟩] at ev
    rw [ev, List.map_append]
    rfl
  · rw [if_neg c]
    unfold eK
    rw [ev, if_neg (fun z => c ⟨z.1.symm, z.2.symm⟩), List.append_nil]
/-- one is put -/
theorem PastAt.lay {H1 H2 H3 H4 H5 : Hp} {p t : Nat} {x : Str} {s : Option Int} (h : PastAt H C a fr S A) (fw : S.puts.length < 5000) (hp : p < S.n) (ht : t ≤ fr.length)
    (s3 : Same (upd (upd H A.tx (.lst ((S.puts.map fun u => V.str u.x) ++ [V.str x]))) A.og (.lst ((S.puts.map fun u => oV u.s) ++ [oV s]))) H3)
    (s5 : Same (upd H3 (A.eA p t) (.dK (putK (eK S p t) (Sum.inl (S.puts.length : Int)) (V.bl true)))) H5) :
    PastAt (upd H5 (A.pA p t) (.lst ((S.lie p t).map V.int ++ [V.int (S.puts.length : Int)]))) C a fr (S.lay p t x s) A := by
  have d : Dom fr S.n p t := ⟨hp, ht⟩
  have r1 := ((((h.raw.setTx ((S.puts.map fun u => V.str u.x) ++ [V.str x])).setOg ((S.puts.map fun u => oV u.s) ++ [oV s])).same s3).setEv d (putK (eK S p t) (Sum.inl (S.puts.length : Int)) (V.bl true))).same s5
  have r2 := r1.setPi d (S.lie p t ++ [(S.puts.length : Int)])
  rw [List.map_append] at r2
  refine ⟨r2.congr rfl ?_ ?_ (fun p' t' d' => ⟨d', eK_lay p' t'⟩) (fun p' t' d' => ⟨d', rfl⟩), ?_, ?_, h.el, h.pl⟩
  · show (S.puts ++ [_]).map _ = _
    rw [List.map_append]
    rfl
  · show (S.puts ++ [_]).map _ = _
    rw [List.map_append]
    rfl
  · show (S.puts ++ [_]).length ≤ 5000
    rw [List.length_append, List.length_singleton]
    omega
  · intro p' t'
    show (setL S.lie p t _ p' t').length ≤ (S.puts ++ [_]).length
    have z := h.lens p' t'
    rw [List.length_append, List.length_singleton]
    unfold setL
    split
    · next e =>
      rw [e.1, e.2] at z
      rw [List.length_append, List.length_singleton]
      omega
    · omega
/-- what stands is taken back -/
theorem PastAt.off {p t : Nat} (h : PastAt H C a fr S A) (hp : p < S.n) (ht : t ≤ fr.length) : PastAt (upd H (A.pA p t) (.lst ((S.lie p t).map V.int).dropLast)) C a fr (S.off p t) A := by
  have r := h.raw.setPi (p := p) (t := t) ⟨hp, ht⟩ (S.lie p t).dropLast
  rw [List.map_dropLast] at r
  refine ⟨r.congr rfl rfl rfl (fun p' t' d' => ⟨d', rfl⟩) (fun p' t' d' => ⟨d', rfl⟩), h.few, ?_, h.el, h.pl⟩
  intro p' t'
  show (setL S.lie p t _ p' t').length ≤ S.puts.length
  have z := h.lens p' t'
  unfold setL
  split
  · next e =>
    rw [e.1, e.2] at z
    rw [List.length_dropLast]
    omega
  · exact z
theorem De.Ok.bare (ok : S.Ok fr) (t : Nat) : S.lie S.n t = [] ∧ S.ever S.n t = [] := by
  constructor
  · cases e : S.lie S.n t with
    | nil => rfl
    | cons k r =>
      obtain ⟨_, u, eu, hu, _⟩ := ok.num S.n t k (by rw [e]; exact List.mem_cons_self)
      have := (ok.each _ u eu).1
      omega
  · cases e : S.ever S.n t with
    | nil => rfl
    | cons k r =>
      obtain ⟨j, _, v, e1, e2, _⟩ := De.seen_ever (S := S) (p := S.n) (q := t) (e := k) (by rw [e]; exact List.mem_cons_self)
      have := (ok.each _ v e1).1
      omega
end
/-! ### a Desk -/
abbrev deskF (p L : Addr) : List (Str × V) := [("past", .ref p), ("lines", .ref L)]
structure DA where
  dx : Addr
  p : Addr
  L : Addr
  A : PA
structure DeskAt (H : Hp) (CD CP d : Addr) (fr : List Int) (S : De) (ls : List Line) (B : DA) : Prop where
  obj : H d = some (.ins CD B.dx (deskF B.p B.L))
  past : PastAt H CP B.p fr S B.A
  lines : LnAt H B.L ls
  nd : ¬ footP B.p fr S.n B.A d
  nL : ¬ footP B.p fr S.n B.A B.L
def footD (d : Addr) (fr : List Int) (n : Nat) (B : DA) : Addr → Prop := fun x => x = d ∨ x = B.L ∨ footP B.p fr n B.A x
/-- a desk, its things among F -/
def Desk (H : Hp) (CD CP d : Addr) (fr : List Int) (S : De) (ls : List Line) (F : Addr → Prop) : Prop :=
  ∃ B, DeskAt H CD CP d fr S ls B ∧ (∀ x, footD d fr S.n B x → F x) ∧ ∀ x, F x → ∃ o, H x = some o ∧ ∀ xs, o ≠ .tup xs
section
variable {H H' : Hp} {CD CP d : Addr} {fr : List Int} {S : De} {ls : List Line} {B : DA} {F : Addr → Prop}
theorem DeskAt.keep (h : DeskAt H CD CP d fr S ls B) (k : ∀ x o, footD d fr S.n B x → H x = some o → H' x = some o) (kt : ∀ q xs, H q = some (.tup xs) → H' q = some (.tup xs)) : DeskAt H' CD CP d fr S ls B := by
  obtain ⟨vs, hv, ha⟩ := h.lines
  exact ⟨k _ _ (.inl rfl) h.obj, h.past.keep fun x o z e => k x o (.inr (.inr z)) e, ⟨vs, k _ _ (.inr (.inl rfl)) hv, ha.mono fun _ _ ⟨q, z, u⟩ => ⟨q, z, kt _ _ u⟩⟩, h.nd, h.nL⟩
theorem Desk.keep (h : Desk H CD CP d fr S ls F) (k : ∀ x o, F x → H x = some o → H' x = some o) (kt : ∀ q xs, H q = some (.tup xs) → H' q = some (.tup xs)) : Desk H' CD CP d fr S ls F := by
  obtain ⟨B, h1, h2, h3⟩ := h
  refine ⟨B, h1.keep (fun x o z e => k x o (h2 x z) e) kt, h2, fun x fx => ?_⟩
  obtain ⟨o, e, n⟩ := h3 x fx
  exact ⟨o, k x o fx e, n⟩
theorem Desk.same (s : Same H H') (h : Desk H CD CP d fr S ls F) : Desk H' CD CP d fr S ls F := h.keep (fun x o _ e => s x o e) fun q xs e => s _ _ e
theorem DeskAt.foot (h : DeskAt H CD CP d fr S ls B) {x : Addr} (hx : footD d fr S.n B x) : ∃ o, H x = some o ∧ ∀ xs, o ≠ .tup xs := by
  rcases hx with rfl | rfl | hx
  · exact ⟨_, h.obj, fun _ z => nomatch z⟩
  · obtain ⟨vs, hv, _⟩ := h.lines
    exact ⟨_, hv, fun _ z => nomatch z⟩
  · exact h.past.raw.foot hx
theorem desk_of (h : DeskAt H CD CP d fr S ls B) : Desk H CD CP d fr S ls (footD d fr S.n B) := ⟨B, h, fun _ z => z, fun _ z => h.foot z⟩
/-- what is true behind a deed at the desk -/
def Goes (CD CP d : Addr) (fr : List Int) (H : Hp) (F : Addr → Prop) (S : De) (ls : List Line) (k : Hp → Prop) : Prop := ∀ (H' : Hp) (F' : Addr → Prop), Desk H' CD CP d fr S ls F' → Only F H H' → (∀ x, F' x → F x ∨ H x = none) → k H'
structure Went (CD CP d : Addr) (fr : List Int) (H : Hp) (F : Addr → Prop) (S : De) (ls : List Line) (H' : Hp) (F' : Addr → Prop) : Prop where
  desk : Desk H' CD CP d fr S ls F'
  only : Only F H H'
  foot : ∀ x, F' x → F x ∨ H x = none
theorem Went.refl (h : Desk H CD CP d fr S ls F) : Went CD CP d fr H F S ls H F := ⟨h, only_same (Same.refl _), fun _ z => .inl z⟩
theorem Went.same {H2 : Hp} {F' : Addr → Prop} (w : Went CD CP d fr H F S ls H' F') (s : Same H' H2) : Went CD CP d fr H F S ls H2 F' := ⟨w.desk.same s, w.only.same s, w.foot⟩
theorem Went.trans {H2 : Hp} {F1 F2 : Addr → Prop} {S' : De} {ls' : List Line} (w : Went CD CP d fr H F S ls H' F1) (v : Went CD CP d fr H' F1 S' ls' H2 F2) : Went CD CP d fr H F S' ls' H2 F2 := by
  refine ⟨v.desk, ⟨fun x o n e => v.only.out x o (fun z => (w.foot x z).elim n fun y => by rw [e] at y; cases y) (w.only.out x o n e), fun x o e => let ⟨u, z⟩ := w.only.grow x o e; v.only.grow x u z⟩, fun x z => ?_⟩
  rcases v.foot x z with y | y
  · exact w.foot x y
  · exact .inr (w.only.free y)
/-- a thing of one's own, not the desk's -/
theorem Went.chg {F' : Addr → Prop} {y : Addr} {o u : HO} (w : Went CD CP d fr H F S ls H' F') (ny : H y = none) (nF : ¬ F' y) (hy : H' y = some u) (nt : ∀ xs, u ≠ .tup xs) : Went CD CP d fr H F S ls (upd H' y o) F' := by
  refine ⟨w.desk.keep (fun x v fx e => ?_) (fun q xs e => ?_), w.only.chg ny, w.foot⟩
  · rw [upd_ne (fun z => nF (by rw [← z]; exact fx))]
    exact e
  · rw [upd_ne (ne_of e hy (fun z => nt _ z.symm))]
    exact e
theorem Desk.tup (h : Desk H CD CP d fr S ls F) (o : Only F H H') {q : Addr} {xs : List V} (e : H q = some (.tup xs)) : H' q = some (.tup xs) := by
  obtain ⟨B, h1, h2, h3⟩ := h
  refine o.out q _ (fun z => ?_) e
  obtain ⟨u, eu, nu⟩ := h3 q z
  rw [e] at eu
  exact nu _ (Option.some.inj eu).symm
theorem Desk.there (h : Desk H CD CP d fr S ls F) {x : Addr} (fx : F x) : ∃ o, H x = some o := by
  obtain ⟨B, h1, h2, h3⟩ := h
  obtain ⟨o, e, _⟩ := h3 x fx
  exact ⟨o, e⟩
theorem Went.new {F' : Addr → Prop} (w : Went CD CP d fr H F S ls H' F') (h : Desk H CD CP d fr S' ls' F) {y : Addr} (ny : H' y = none) : ¬ F' y := fun z => by
  obtain ⟨o, e⟩ := w.desk.there z
  rw [ny] at e
  cases e
end
end PD

/-! Phrasedesk: list(range(a, b, c)); texts of lines -/
namespace PD
open PySem PySem.Spec PyProof.Rows L2
def stepsV (i c : Int) (n : Nat) : List V := (List.range n).map fun k => V.int (i + (k : Nat) * c)
def tStp (ta : TA) : TE := fun σ G Q => ta σ G fun xs G1 => ∃ (i j c : Int) (n : Nat), xs = [.int i, .int j, .int c] ∧ RgC i j c n ∧ n ≤ 1000 ∧ ∀ q, G1 q = none → Q (.ref q) (upd G1 q (.lst (stepsV i c n)))
theorem steps_len {i c : Int} {n : Nat} : (stepsV i c n).length = n := by
  unfold stepsV
  rw [List.length_map, List.length_range]
theorem steps_vals {i c : Int} {n : Nat} {acc : Array Value} (h : ItemsOf (fun k v => ∃ t, v = .int (i + k * c) t) acc n) : Vals (stepsV i c n) acc.toList := by
  have el : acc.toList.length = n := (Array.length_toList).trans h.1
  unfold stepsV
  rw [← el]
  apply vals_of_get
  intro j u hj
  rw [Array.getElem?_toList] at hj
  exact h.2 j u hj
section
variable {X : Cx}
theorem pe_lstSteps {a b c : Expr} {ta : TA} {p1 p2 q1 q2 : Pos} (calm : X.calm = true) (g1 : Gl X "list") (m1 : X.mg "list" = none) (g2 : Gl X "range") (m2 : X.mg "range" = none) (ha : L2.PA X [a, b, c] ta)
    (st : starEach [a, b, c] X.env = (false, eval a X.env) :: starEach [b, c] X.env := by rfl) (pl : (backTo q2 (starEach [b, c] X.env)).any (·.1) = false := by rfl)
    (so : starEach [Expr.Call (.Name "range" p2) [a, b, c] [] q2] X.env = (false, eval (.Call (.Name "range" p2) [a, b, c] [] q2) X.env) :: starEach [] X.env := by rfl) :
    PE X (.Call (.Name "list" p1) [.Call (.Name "range" p2) [a, b, c] [] q2] [] q1) (tStp ta) := by
  constructor
  intro pins z σ G Q I h
  have made : wpAny (model X.prog X.w) X.A (eval (.Call (.Name "range" p2) [a, b, c] [] q2) X.env) (fun x z' => ∃ (r : Addr) (i j k : Int) (n : Nat) (t u v : Tok) (G' : Hp), x = .ref r ∧ IsRange z'.heap r i j k t u v ∧ Inv X pins σ G' z' ∧ RgC i j k n ∧ n ≤ 1000 ∧
      ∀ q, G' q = none → Q (.ref q) (upd G' q (.lst (stepsV i k n)))) X.xe z := by
    refine Call_ (ld_blt I g2 m2 boot_range (PyProof.Rows.callWith_type1 (thn (ha.run q2 pins z σ G _ I h) fun us z1 w1 => ?_) st pl))
    obtain ⟨xs, G1, I1, r1, i, j, k, n, rfl, rg, n1, q⟩ := w1
    obtain ⟨u1, us1, rfl, ⟨t, rfl⟩, r2⟩ : ∃ u us', us = u :: us' ∧ RelV (.int i) u ∧ Vals [V.int j, V.int k] us' := by
      cases r1 with
      | cons a b => exact ⟨_, _, rfl, a, b⟩
    obtain ⟨u2, us2, rfl, ⟨t', rfl⟩, r3⟩ : ∃ u us', us1 = u :: us' ∧ RelV (.int j) u ∧ Vals [V.int k] us' := by
      cases r2 with
      | cons a b => exact ⟨_, _, rfl, a, b⟩
    obtain ⟨u3, us3, rfl, ⟨t'', rfl⟩, r4⟩ : ∃ u us', us2 = u :: us' ∧ RelV (.int k) u ∧ Vals [] us' := by
      cases r3 with
      | cons a b => exact ⟨_, _, rfl, a, b⟩
    cases r4
    · refine call_range_3 rg.1 ?_ (.inl (PyProof.noPylong_small rg.2.1))
      exact ⟨_, i, j, k, n, _, _, _, G1, rfl, IsRange.new .., I1.kept (t' := z1.toks) fun b o e => Heap.get?_push_of_some _ e, rg, n1, q⟩
  refine Call_ (ld_blt I g1 m1 boot_list (PyProof.Rows.callWith_type1 (args_cons (thn made fun x z1 w1 => args_nil ?_) so) so))
  obtain ⟨r, i, j, k, n, t, u, v, G1, rfl, hr, I1, rg, n1, q⟩ := w1
  refine call_list_range (n := n) (I1.ok.hd calm) hr rg.2.2.1 rg.2.2.2 (Nat.le_trans n1 (by decide)) fun h' tk acc c' hk e' hi => ?_
  refine ⟨.ref z1.heap.objs.size, _, I1.laid hk (Nat.le_refl _) (o := .lst (stepsV i k n)) ?_, rfl, q _ (I1.hok.fresh (Nat.le_refl _))⟩
  refine ⟨?_, acc.toList, c', steps_vals hi, ?_⟩
  · rw [steps_len]
    exact Nat.le_trans n1 (by decide)
  · rw [Array.toArray_toList]
    exact e'
end
/-! ### lines as a tale's, their texts -/
def Line.Tx : Line → Prop
  | .phrase _ x _ => TxOk x
  | .put _ _ x _ _ _ => TxOk x
  | .back _ _ _ => True
theorem fill_tx {fr : List Int} {S : De} (h : S.Ok fr) (fo : FrOk fr) {t : Nat} (t0 : 0 < t) (t1 : t ≤ fr.length) : ∀ i, i ≤ S.n → ∀ n ∈ (S.fillTo fr t i).2.2, n.Tx
  | 0, _ => fun n hn => (nomatch hn)
  | i + 1, hi => by
    have ih := fill_tx h fo t0 t1 i (by omega)
    have fk := fillTo_ok h fo t0 t1 i (by omega)
    rw [De.fillTo_succ]
    generalize S.fillTo fr t i = A at ih fk ⊢
    by_cases c1 : chain fr (A.1.row (fr.length + 1) i) (up fr t) = Option.none
    · by_cases c2 : chain fr (A.1.row (fr.length + 1) i) t = Option.none
      · rw [De.fill_no (.inr (.inl c2))]
        exact ih
      · cases c3 : onlyOf (A.1.found fr i t A.1.n) with
        | none =>
          rw [De.fill_no (.inr (.inr c3))]
          exact ih
        | some x =>
          rw [De.fill_yes c1 c2 c3]
          intro n hn
          rcases List.mem_append.mp hn with z | z
          · exact ih n z
          · rw [List.mem_singleton.mp z]
            exact fk.ok.found fo t0 t1 ((onlyOf_some c3 x).mpr rfl)
    · rw [De.fill_no (.inl c1)]
      exact ih
theorem come_tx {fr : List Int} {S : De} {dd : Deed} (h : S.Ok fr) (fo : FrOk fr) (m : S.May fr dd) : ∀ n ∈ (S.come fr dd).2.2, n.Tx := by
  cases dd with
  | phrase x =>
    intro n hn
    rw [List.mem_singleton.mp hn]
    exact m.2
  | put p t x s o =>
    intro n hn
    rw [List.mem_singleton.mp hn]
    exact m.2.2.1
  | back p t =>
    intro n hn
    rw [List.mem_singleton.mp hn]
    trivial
  | fill t => exact fill_tx h fo m.1 m.2 S.n (Nat.le_refl _)
def Line.tl : Line → Tl
  | .phrase p x k => .phrase p x k
  | .put p t x s o k => .put p t x s o k
  | .back p t k => .back p t k
theorem Line.tl_vals : ∀ n : Line, n.tl.vals = n.vals
  | .phrase _ _ _ => rfl
  | .put _ _ _ _ _ _ => rfl
  | .back _ _ _ => rfl
theorem Line.Tx.low : ∀ {n : Line}, n.Tx → n.tl.Low
  | .phrase _ x _, h => ⟨h.each, by have := TxOk.hi h; omega⟩
  | .put _ _ x _ _ _, h => ⟨h.each, by have := TxOk.hi h; omega⟩
  | .back _ _ _, _ => trivial
def Tl.short : Tl → Prop
  | .phrase _ x _ => x.length ≤ 5000
  | .put _ _ x _ _ _ => x.length ≤ 5000
  | .back _ _ _ => True
theorem Tl.Low.short : ∀ {n : Tl}, n.Low → n.short
  | .phrase _ _ _, h => h.2
  | .put _ _ _ _ _ _, h => h.2
  | .back _ _ _, _ => trivial
end PD

/-! Phrasedesk: a comprehension over two lists, one within the other -/
namespace PD
open PySem PySem.Spec PyProof.Rows L2
section
variable {K : PySem.W.Frag} {a b : Addr} {xs ys : List V} {wi wi1 : TI} {tt1 : TT} {te : TE} {vs : List Nat} {i0 j0 : Nat} {σ : L2.St} {G0 : Hp} {Q : VK}
/-- the slots behind both names -/
abbrev sl1 (σ : L2.St) (vs : List Nat) (i0 : Nat) (x : V) : L2.St := (wipe σ vs).set i0 (some x)
abbrev sl2 (σ : L2.St) (vs : List Nat) (i0 j0 : Nat) (x y : V) : L2.St := (wipe (sl1 σ vs i0 x) [j0]).set j0 (some y)
theorem lc2_two (Pv : Addr → Nat → Nat → Hp → Prop) (hwi : ∀ R : It → Hp → Prop, R (Itl K a) G0 → wi σ G0 R) (hwi1 : ∀ x G (R : It → Hp → Prop), SqL K G b ys → R (Itl K b) G → wi1 (sl1 σ vs i0 x) G R)
    (hw1 : ∀ x, wipe (sl1 σ vs i0 x) vs = wipe σ vs) (hw2 : ∀ x y, wipe (sl2 σ vs i0 j0 x y) [j0] = wipe (sl1 σ vs i0 x) [j0])
    (h0 : ∀ D, G0 D = none → Pv D 0 0 (upd G0 D (.lst []))) (hl : ∀ D i j G, Pv D i j G → SqL K G a xs ∧ SqL K G b ys) (hn : ∀ D i G, Pv D i ys.length G → Pv D (i + 1) 0 G)
    (hs : ∀ D, G0 D = none → ∀ i j x y G, xs[i]? = some x → ys[j]? = some y → Pv D i j G → tt1 (sl2 σ vs i0 j0 x y) G fun c G1 =>
      if c = true then te (sl2 σ vs i0 j0 x y) G1 fun v G2 => ∃ acc, G2 D = some (.lst acc) ∧ acc.length < sizeLine ∧ Pv D i (j + 1) (upd G2 D (.lst (acc ++ [v]))) else Pv D i (j + 1) G1)
    (hd : ∀ D, G0 D = none → ∀ G, Pv D xs.length 0 G → Q (.ref D) G) : tLc2 wi (gName i0) tYes wi1 (gName j0) tt1 te vs [j0] σ G0 Q := by
  have w1 := walk_list (K := K) (a := a) (xs := xs)
  have w2 := walk_list (K := K) (a := b) (xs := ys)
  refine hwi _ fun D nD => ⟨fun i m G => m = xs.length - i ∧ i ≤ xs.length ∧ Pv D i 0 G, ⟨xs.length, by simp, Nat.zero_le _, h0 D nD⟩, ?_⟩
  rintro i m G ⟨rfl, hi, pv⟩
  by_cases c : i < xs.length
  · refine .inr ⟨w1.goes i G c (hl D i 0 G pv).1, Pv D (i + 1) 0, fun G' p' => ⟨xs.length - (i + 1), by omega, rfl, c, p'⟩, ?_⟩
    intro x G' yl
    obtain ⟨eH, ex⟩ := w1.yields i G x G' c (hl D i 0 G pv).1 yl
    subst eH
    refine ⟨hw1 x, ?_⟩
    show wi1 _ _ _
    refine hwi1 x _ _ (hl D i 0 _ pv).2 ⟨fun j k G => k = ys.length - j ∧ j ≤ ys.length ∧ Pv D i j G, ⟨ys.length, by simp, Nat.zero_le _, pv⟩, ?_⟩
    rintro j k G ⟨rfl, hj, pv⟩
    by_cases cj : j < ys.length
    · refine .inr ⟨w2.goes j G cj (hl D i j G pv).2, Pv D i (j + 1), fun G' p' => ⟨ys.length - (j + 1), by omega, rfl, cj, p'⟩, ?_⟩
      intro y G' yl
      obtain ⟨eH, ey⟩ := w2.yields j G y G' cj (hl D i j G pv).2 yl
      subst eH
      exact ⟨hw2 x y, hs D nD i j x y _ ex ey pv⟩
    · have e : j = ys.length := by omega
      subst e
      exact .inl ⟨w2.stops G (hl D i _ G pv).2, hn D i G pv⟩
  · have e : i = xs.length := by omega
    subst e
    exact .inl ⟨w1.stops G (hl D _ 0 G pv).1, hd D nD G pv⟩
end
/-- all that is old at a desk -/
def De.oldOf (fr : List Int) (S : De) (p : Nat) : List Pr := ((List.range fr.length).filter fun j => (chain fr (S.row (fr.length + 1) p) (j + 1)).isSome).map fun (j : Nat) => ((p : Int), ((j + 1 : Nat) : Int))
def De.oldTo (fr : List Int) (S : De) (i : Nat) : List Pr := (List.range i).flatMap (S.oldOf fr)
def De.oldUp (fr : List Int) (S : De) (i j : Nat) : List Pr := S.oldTo fr i ++ (((List.range j).filter fun j => (chain fr (S.row (fr.length + 1) i) (j + 1)).isSome).map fun (j : Nat) => ((i : Int), ((j + 1 : Nat) : Int)))
theorem De.oldTo_succ {fr : List Int} {S : De} {i : Nat} : S.oldTo fr (i + 1) = S.oldUp fr i fr.length := by
  unfold De.oldTo De.oldUp
  rw [List.range_succ, List.flatMap_append]
  unfold De.oldTo De.oldOf
  simp
theorem De.oldUp_succ {fr : List Int} {S : De} {i j : Nat} : S.oldUp fr i (j + 1) = S.oldUp fr i j ++ (if (chain fr (S.row (fr.length + 1) i) (j + 1)).isSome then [((i : Int), ((j + 1 : Nat) : Int))] else []) := by
  unfold De.oldUp
  rw [List.range_succ, List.filter_append, List.map_append, List.append_assoc]
  congr 2
  by_cases c : (chain fr (S.row (fr.length + 1) i) (j + 1)).isSome = true
  · rw [if_pos c, List.filter_cons_of_pos (p := fun j => (chain fr (S.row (fr.length + 1) i) (j + 1)).isSome) c]
    rfl
  · rw [if_neg c, List.filter_cons_of_neg (p := fun j => (chain fr (S.row (fr.length + 1) i) (j + 1)).isSome) c]
    rfl
theorem De.oldUp_len {fr : List Int} {S : De} : ∀ {i j : Nat}, (S.oldUp fr i j).length ≤ fr.length * i + j := by
  intro i
  induction i with
  | zero =>
    intro j
    unfold De.oldUp De.oldTo
    rw [List.range_zero, List.flatMap_nil, List.nil_append, List.length_map]
    have := List.length_filter_le (fun j => (chain fr (S.row (fr.length + 1) 0) (j + 1)).isSome) (List.range j)
    rw [List.length_range] at this
    omega
  | succ i ih =>
    intro j
    unfold De.oldUp
    rw [De.oldTo_succ, List.length_append, List.length_map]
    have h1 := ih (j := fr.length)
    have h2 := List.length_filter_le (fun j => (chain fr (S.row (fr.length + 1) (i + 1)) (j + 1)).isSome) (List.range j)
    rw [List.length_range] at h2
    rw [Nat.mul_succ]
    omega
abbrev De.olds (fr : List Int) (S : De) : List Pr := S.oldTo fr S.n
end PD

/-! Phrasedesk: what is written out as texts, and how long it is at the most -/
namespace PD
open PySem PySem.Spec PyProof.Rows L2
/-- str(x): data by its text, None -/
def rStrV (K : PySem.W.Frag) : List V → Hp → VK → Prop := fun xs G Q => rStrD K xs G Q ∨ (xs = [.non] ∧ Q (.str "None") G)
theorem call_strV {X : Cx} (hg : X.A.guards = some []) (hu : X.A.units + 64 < cLine) : CallR X (.type "str") (rStrV X.K) := by
  intro pins z σ G xs us Q I r h
  rcases h with h | ⟨rfl, q⟩
  · exact call_strD hg hu pins z σ G xs us Q I r h
  · obtain ⟨u, rfl, r1⟩ := vals1 r
    cases r1
    exact PySem.P.str_of_none ⟨.str _, G, I.tok _, ⟨_, rfl⟩, q⟩
structure Shw (c e : Nat) (d : PyData) : Prop where
  len : d.shown.length ≤ c
  sh : d.showable = true
  nd : d.hasDict = false
  dp : d.depth ≤ e
structure ShwAll (n c e : Nat) (ds : List PyData) : Prop where
  len : piled (PyData.shownAll ds) ≤ n * (c + 2)
  sh : PyData.showableAll ds = true
  nd : PyData.hasDictAll ds = false
  dp : PyData.depthAll ds ≤ e
  n : ds.length ≤ n
theorem ShwAll.nil {c e : Nat} : ShwAll 0 c e [] := ⟨Nat.zero_le _, rfl, rfl, Nat.zero_le _, Nat.le_refl _⟩
theorem ShwAll.cons {n c e : Nat} {d : PyData} {ds : List PyData} (h : Shw c e d) (r : ShwAll n c e ds) : ShwAll (n + 1) c e (d :: ds) := by
  refine ⟨?_, ?_, ?_, ?_, ?_⟩
  · show piled (d.shown :: PyData.shownAll ds) ≤ _
    rw [piled_cons, Nat.succ_mul]
    have := h.len
    have := r.len
    omega
  · show (d.showable && PyData.showableAll ds) = true
    rw [h.sh, r.sh]
    rfl
  · show (d.hasDict || PyData.hasDictAll ds) = false
    rw [h.nd, r.nd]
    rfl
  · show max d.depth (PyData.depthAll ds) ≤ e
    have := h.dp
    have := r.dp
    omega
  · have := r.n
    rw [List.length_cons]
    omega
theorem shw_all {c e : Nat} : ∀ {ds : List PyData}, (∀ d ∈ ds, Shw c e d) → ShwAll ds.length c e ds
  | [], _ => ShwAll.nil
  | d :: ds, h => (shw_all fun x hx => h x (List.mem_cons_of_mem _ hx)).cons (h d List.mem_cons_self)
theorem textFrom_le : ∀ (ts : List Str) (k : Nat) (acc : Str), (textFrom k acc ts).length ≤ acc.length + piled ts
  | [], k, acc => Nat.le_add_right _ _
  | t :: ts, k, acc => by
    have ih := textFrom_le ts (k + 1) (acc ++ (if k > 0 then ", " else "" : String) ++ t)
    have e2 : (((if k > 0 then ", " else "" : String) : Str)).length ≤ 2 := by
      split <;> decide +kernel
    rw [strLen_append, strLen_append] at ih
    rw [piled_cons]
    exact Nat.le_trans ih (by omega)
theorem ShwAll.list {n c e : Nat} {ds : List PyData} (h : ShwAll n c e ds) : Shw (n * (c + 2) + 2) (e + 1) (.list ds) := by
  refine ⟨?_, h.sh, h.nd, ?_⟩
  · show (listText (PyData.shownAll ds)).length ≤ _
    unfold listText
    have h1 := textFrom_le (PyData.shownAll ds) 0 "["
    have e1 : ((("[" : String) : Str)).length = 1 := rfl
    have e2 : ((("]" : String) : Str)).length = 1 := rfl
    rw [strLen_append]
    have := h.len
    omega
  · have := h.dp
    simp only [PyData.depth]
    omega
theorem ShwAll.tuple {n c e : Nat} {ds : List PyData} (h : ShwAll n c e ds) : Shw (n * (c + 2) + 4) (e + 1) (.tuple ds) := by
  refine ⟨?_, h.sh, h.nd, ?_⟩
  · show (tupleText (PyData.shownAll ds)).length ≤ _
    unfold tupleText
    have h1 : (Str.join ", " (PyData.shownAll ds)).length ≤ piled (PyData.shownAll ds) := by
      cases e : PyData.shownAll ds with
      | nil => decide
      | cons t ts =>
        have := join_length_add (t :: ts) (by simp)
        omega
    have e1 : ((("(" : String) : Str)).length = 1 := rfl
    have e2 : (((if (PyData.shownAll ds).length == 1 then ",)" else ")" : String) : Str)).length ≤ 2 := by
      split <;> decide +kernel
    rw [strLen_append, strLen_append]
    have := h.len
    omega
  · have := h.dp
    simp only [PyData.depth]
    omega
theorem shw_int {i : Int} (h : i.natAbs < 2 ^ 64) : Shw 1921 0 (.int i) := by
  have hl : i.natAbs.log2 < 1920 := by
    have := PySem.Flt.log2_lt_of (by decide : 0 < 64) h
    omega
  exact ⟨int_text_len_1921 hl, decide_eq_true hl, rfl, Nat.le_refl _⟩
theorem shw_none : Shw 1921 0 .none := ⟨by decide +kernel, rfl, rfl, Nat.le_refl _⟩
theorem shw_o {s : Option Int} (h : ∀ i, s = some i → i.natAbs < 2 ^ 64) : Shw 1921 0 (dO s) := by
  cases s with
  | none => exact shw_none
  | some i => exact shw_int (h i rfl)
theorem shw_str {x : Str} (l : lowS x) (h : x.length ≤ 100) : Shw 1921 0 (.str x) := by
  refine ⟨?_, rfl, rfl, Nat.le_refl _⟩
  have := StrLaws.reprText_len x fun c hc => by
    have := (l c hc).2
    exact Nat.lt_of_le_of_lt this (by decide)
  show (reprText x).length ≤ 1921
  omega
theorem Shw.mono {c c' e e' : Nat} {d : PyData} (h : Shw c e d) (hc : c ≤ c') (he : e ≤ e') : Shw c' e' d := ⟨Nat.le_trans h.len hc, h.sh, h.nd, Nat.le_trans h.dp he⟩
/-- what str(x) asks -/
theorem Shw.asks {K : PySem.W.Frag} {G : Hp} {a : Addr} {c e : Nat} {d : PyData} (h : Shw c e d) (hc : c ≤ 16000000) (he : e ≤ 60) (dp : Dp K G (.ref a) d) {Q : VK} (q : Q (.str d.shown) G) : rStrV K [.ref a] G Q :=
  .inl ⟨a, d, rfl, dp, h.sh, h.nd, Nat.le_trans h.dp he, Nat.le_trans h.len (Nat.le_trans hc (by decide)), q⟩
/-! ### a desk's things as data -/
theorem shw_prs {ps : List Pr} (h : ∀ q ∈ ps, q.1.natAbs < 2 ^ 64 ∧ q.2.natAbs < 2 ^ 64) (n : ps.length ≤ 1000) : Shw 4000000 2 (dPs ps) := by
  have h1 : ∀ d ∈ ps.map dP, Shw 3850 1 d := by
    intro d hd
    obtain ⟨q, hq, rfl⟩ := List.mem_map.mp hd
    have := h q hq
    exact ((ShwAll.cons (shw_int this.1) (ShwAll.cons (shw_int this.2) ShwAll.nil)).tuple).mono (by decide) (by decide)
  have h2 := (shw_all h1).list
  rw [List.length_map] at h2
  exact h2.mono (by
    have : ps.length * (3850 + 2) ≤ 1000 * (3850 + 2) := Nat.mul_le_mul_right _ n
    omega) (by decide)
theorem shw_row {row : List Cell} (h : ∀ c ∈ row, ∀ a b, c = some (a, b) → a.natAbs < 2 ^ 64 ∧ ∀ i, b = some i → i.natAbs < 2 ^ 64) (n : row.length ≤ 1000) : Shw 4000000 2 (dRow row) := by
  have h1 : ∀ d ∈ row.map dC, Shw 3850 1 d := by
    intro d hd
    obtain ⟨c, hc, rfl⟩ := List.mem_map.mp hd
    cases c with
    | none => exact shw_none.mono (by decide) (by decide)
    | some p =>
      obtain ⟨a, b⟩ := p
      have := h _ hc a b rfl
      exact ((ShwAll.cons (shw_int this.1) (ShwAll.cons (shw_o this.2) ShwAll.nil)).tuple).mono (by decide) (by decide)
  have h2 := (shw_all h1).list
  rw [List.length_map] at h2
  exact h2.mono (by
    have : row.length * (3850 + 2) ≤ 1000 * (3850 + 2) := Nat.mul_le_mul_right _ n
    omega) (by decide)
def dE (e : Int × Str) : PyData := .tuple [.int e.1, .str e.2]
def dEs (l : List (Int × Str)) : PyData := .list (l.map dE)
theorem dpa_evs {K : PySem.W.Frag} {H : Hp} : ∀ {vs : List V} {l : List (Int × Str)}, All2 (EvV H) vs l → DpAll K H vs (l.map dE)
  | [], [], _ => .nil
  | [], _ :: _, h => by have := h.len; simp at this
  | _ :: _, [], h => by have := h.len; simp at this
  | v :: vs, q :: ps, h => by
    obtain ⟨⟨r, e, a⟩, b⟩ := h.tail
    rw [e]
    exact .cons (.tup (SqT.of a) (.cons (.int _) (.cons (.str _) .nil))) (dpa_evs b)
theorem dp_evs {K : PySem.W.Frag} {H : Hp} {a : Addr} {l : List (Int × Str)} (h : EvAt H a l) : Dp K H (.ref a) (dEs l) := let ⟨vs, x, y⟩ := h; .lst (SqL.of x) (dpa_evs y)
theorem shw_ev {e : Int × Str} (h1 : e.1.natAbs < 2 ^ 64) (h2 : TxOk e.2) : Shw 3850 1 (dE e) :=
  ((ShwAll.cons (shw_int h1) (ShwAll.cons (shw_str h2.each (by have := h2.hi; omega)) ShwAll.nil)).tuple).mono (by decide) (by decide)
theorem shw_evs {l : List (Int × Str)} (h : ∀ e ∈ l, e.1.natAbs < 2 ^ 64 ∧ TxOk e.2) (n : l.length ≤ 1000) : Shw 4000000 2 (dEs l) := by
  have h1 : ∀ d ∈ l.map dE, Shw 3850 1 d := by
    intro d hd
    obtain ⟨e, he, rfl⟩ := List.mem_map.mp hd
    exact shw_ev (h e he).1 (h e he).2
  have h2 := (shw_all h1).list
  rw [List.length_map] at h2
  exact h2.mono (by
    have : l.length * (3850 + 2) ≤ 1000 * (3850 + 2) := Nat.mul_le_mul_right _ n
    omega) (by decide)
end PD

/-! Phrasedesk: written data, laid anew -/
namespace PD
open PySem PySem.Spec PyProof.Rows L2
mutual
/-- v is d at H, its lists not among P -/
inductive Dn (P : Addr → Prop) (H : Hp) : V → PyData → Prop
  | non : Dn P H .non .none
  | bl (b : Bool) : Dn P H (.bl b) (.bool b)
  | int (i : Int) : Dn P H (.int i) (.int i)
  | str (x : Str) : Dn P H (.str x) (.str x)
  | lst {a : Addr} {xs : List V} {ds : List PyData} : ¬ P a → H a = some (.lst xs) → DnAll P H xs ds → Dn P H (.ref a) (.list ds)
  | tup {a : Addr} {xs : List V} {ds : List PyData} : H a = some (.tup xs) → DnAll P H xs ds → Dn P H (.ref a) (.tuple ds)
inductive DnAll (P : Addr → Prop) (H : Hp) : List V → List PyData → Prop
  | nil : DnAll P H [] []
  | cons {v : V} {vs : List V} {d : PyData} {ds : List PyData} : Dn P H v d → DnAll P H vs ds → DnAll P H (v :: vs) (d :: ds)
end
/-- what is there -/
def InH (H : Hp) : Addr → Prop := fun x => ∃ o, H x = some o
theorem InH.new {H : Hp} {a : Addr} (h : H a = none) : ¬ InH H a := fun ⟨o, e⟩ => by rw [h] at e; cases e
theorem InH.same {H H' : Hp} (s : Same H H') {x : Addr} : InH H x → InH H' x := fun ⟨o, e⟩ => ⟨o, s _ _ e⟩
section
variable {K : PySem.W.Frag} {P P' : Addr → Prop} {H H' : Hp}
mutual
theorem Dn.dp : ∀ {v : V} {d : PyData}, Dn P H v d → Dp K H v d
  | _, _, .non => .non
  | _, _, .bl b => .bl b
  | _, _, .int i => .int i
  | _, _, .str x => .str x
  | _, _, .lst _ h r => .lst (SqL.of h) r.dp
  | _, _, .tup h r => .tup (SqT.of h) r.dp
theorem DnAll.dp : ∀ {vs : List V} {ds : List PyData}, DnAll P H vs ds → DpAll K H vs ds
  | _, _, .nil => .nil
  | _, _, .cons h r => .cons h.dp r.dp
end
mutual
theorem Dn.keep (kl : ∀ a xs, ¬ P a → H a = some (.lst xs) → ¬ P' a ∧ H' a = some (.lst xs)) (kt : ∀ a xs, H a = some (.tup xs) → H' a = some (.tup xs)) : ∀ {v : V} {d : PyData}, Dn P H v d → Dn P' H' v d
  | _, _, .non => .non
  | _, _, .bl b => .bl b
  | _, _, .int i => .int i
  | _, _, .str x => .str x
  | _, _, .lst n h r => .lst (kl _ _ n h).1 (kl _ _ n h).2 (r.keep kl kt)
  | _, _, .tup h r => .tup (kt _ _ h) (r.keep kl kt)
theorem DnAll.keep (kl : ∀ a xs, ¬ P a → H a = some (.lst xs) → ¬ P' a ∧ H' a = some (.lst xs)) (kt : ∀ a xs, H a = some (.tup xs) → H' a = some (.tup xs)) : ∀ {vs : List V} {ds : List PyData}, DnAll P H vs ds → DnAll P' H' vs ds
  | _, _, .nil => .nil
  | _, _, .cons h r => .cons (h.keep kl kt) (r.keep kl kt)
end
theorem Dn.same (s : Same H H') {v : V} {d : PyData} (h : Dn P H v d) : Dn P H' v d := h.keep (fun _ _ n e => ⟨n, s _ _ e⟩) fun _ _ e => s _ _ e
theorem DnAll.same (s : Same H H') {vs : List V} {ds : List PyData} (h : DnAll P H vs ds) : DnAll P H' vs ds := h.keep (fun _ _ n e => ⟨n, s _ _ e⟩) fun _ _ e => s _ _ e
theorem Dn.mono (s : ∀ x, P' x → P x) {v : V} {d : PyData} (h : Dn P H v d) : Dn P' H v d := h.keep (fun _ _ n e => ⟨fun z => n (s _ z), e⟩) fun _ _ e => e
theorem DnAll.mono (s : ∀ x, P' x → P x) {vs : List V} {ds : List PyData} (h : DnAll P H vs ds) : DnAll P' H vs ds := h.keep (fun _ _ n e => ⟨fun z => n (s _ z), e⟩) fun _ _ e => e
theorem DnAll.len : ∀ {vs : List V} {ds : List PyData}, DnAll P H vs ds → vs.length = ds.length
  | _, _, .nil => rfl
  | _, _, .cons _ r => by rw [List.length_cons, List.length_cons, r.len]
theorem DnAll.ints_of : ∀ {vs : List V} {ns : List Int}, DnAll P H vs (ns.map .int) → vs = ns.map V.int
  | _, [], h => by cases h; rfl
  | _, n :: ns, h => by
    cases h with
    | cons a r =>
      cases a
      rw [r.ints_of]
      rfl
/-- a list of numbers -/
theorem Dn.ls {v : V} {ns : List Int} (h : Dn P H v (dI ns)) : ∃ a, v = .ref a ∧ ¬ P a ∧ LsAt H a ns := by
  unfold dI at h
  cases h with
  | lst n e r =>
    rw [r.ints_of] at e
    exact ⟨_, rfl, n, e⟩
/-- what is a desk's, as data -/
theorem dna_prs : ∀ {vs : List V} {ps : List Pr}, All2 (PrV H) vs ps → DnAll P H vs (ps.map dP)
  | [], [], _ => .nil
  | [], _ :: _, h => by have := h.len; simp at this
  | _ :: _, [], h => by have := h.len; simp at this
  | v :: vs, q :: ps, h => by
    obtain ⟨⟨r, e, a⟩, b⟩ := h.tail
    rw [e]
    exact .cons (.tup a (.cons (.int _) (.cons (.int _) .nil))) (dna_prs b)
theorem dn_prs {a : Addr} {ps : List Pr} (n : ¬ P a) (h : PrsAt H a ps) : Dn P H (.ref a) (dPs ps) := let ⟨vs, x, y⟩ := h; .lst n x (dna_prs y)
theorem dn_o : ∀ {s : Option Int}, Dn P H (oV s) (dO s)
  | none => .non
  | some i => .int i
theorem dn_cell {v : V} : ∀ {c : Cell}, CellV H v c → Dn P H v (dC c)
  | none, h => by
    cases (show v = .non from h)
    exact .non
  | some (a, b), ⟨p, e, h⟩ => by
    subst e
    exact .tup h (.cons (.int a) (.cons dn_o .nil))
theorem dna_row : ∀ {vs : List V} {row : List Cell}, Cells H vs row → DnAll P H vs (row.map dC)
  | [], [], _ => .nil
  | [], _ :: _, h => by
    have := h.len
    simp at this
  | _ :: _, [], h => by
    have := h.len
    simp at this
  | v :: vs, c :: row, h => by
    obtain ⟨u, e1, e2⟩ := h.each 0 c rfl
    cases (Option.some.inj e1)
    have h' : Cells H vs row := ⟨by have := h.len; simpa using this, fun i d e => h.each (i + 1) d e⟩
    exact .cons (dn_cell e2) (dna_row h')
theorem dn_row {a : Addr} {row : List Cell} (n : ¬ P a) (h : RowAt H a row) : Dn P H (.ref a) (dRow row) := let ⟨vs, x, y⟩ := h; .lst n x (dna_row y)
theorem dna_evs : ∀ {vs : List V} {l : List (Int × Str)}, All2 (EvV H) vs l → DnAll P H vs (l.map dE)
  | [], [], _ => .nil
  | [], _ :: _, h => by have := h.len; simp at this
  | _ :: _, [], h => by have := h.len; simp at this
  | v :: vs, q :: ps, h => by
    obtain ⟨⟨r, e, a⟩, b⟩ := h.tail
    rw [e]
    exact .cons (.tup a (.cons (.int _) (.cons (.str _) .nil))) (dna_evs b)
theorem dn_evs {a : Addr} {l : List (Int × Str)} (n : ¬ P a) (h : EvAt H a l) : Dn P H (.ref a) (dEs l) := let ⟨vs, x, y⟩ := h; .lst n x (dna_evs y)
theorem dn_ls {a : Addr} {ns : List Int} (n : ¬ P a) (h : LsAt H a ns) : Dn P H (.ref a) (dI ns) :=
  .lst n h (by
    clear h n
    induction ns with
    | nil => exact .nil
    | cons x r ih => exact .cons (.int x) ih)
/-- a line as data -/
def dLn : Line → PyData
  | .phrase p x k => .tuple [.str "phrase", .int p, .str x, .int k]
  | .put p t x s o k => .tuple [.str "put", .int p, .int t, .str x, dO s, dO o, .int k]
  | .back p t k => .tuple [.str "back", .int p, .int t, .int k]
def dLs (l : List Line) : PyData := .list (l.map dLn)
theorem dn_ln {a : Addr} : ∀ {n : Line}, H a = some (.tup n.vals) → Dn P H (.ref a) (dLn n)
  | .phrase p x k, h => .tup h (.cons (.str _) (.cons (.int _) (.cons (.str _) (.cons (.int _) .nil))))
  | .put p t x s o k, h => .tup h (.cons (.str _) (.cons (.int _) (.cons (.int _) (.cons (.str _) (.cons dn_o (.cons dn_o (.cons (.int _) .nil)))))))
  | .back p t k, h => .tup h (.cons (.str _) (.cons (.int _) (.cons (.int _) (.cons (.int _) .nil))))
theorem dna_lns : ∀ {vs : List V} {l : List Line}, All2 (LnV H) vs l → DnAll P H vs (l.map dLn)
  | [], [], _ => .nil
  | [], _ :: _, h => by have := h.len; simp at this
  | _ :: _, [], h => by have := h.len; simp at this
  | v :: vs, q :: ps, h => by
    obtain ⟨⟨r, e, a⟩, b⟩ := h.tail
    rw [e]
    exact .cons (dn_ln a) (dna_lns b)
theorem dn_lns {a : Addr} {l : List Line} (n : ¬ P a) (h : LnAt H a l) : Dn P H (.ref a) (dLs l) := let ⟨vs, x, y⟩ := h; .lst n x (dna_lns y)
theorem not_no {a : Addr} : ¬ (fun _ : Addr => False) a := fun z => z
/-- its numbers and texts are small -/
def Line.Sm : Line → Prop
  | .phrase p x k => p ≤ 1000 ∧ TxOk x ∧ k.natAbs < 2 ^ 64
  | .put p t x s o k => p ≤ 1000 ∧ t ≤ 1000 ∧ TxOk x ∧ (∀ i, s = some i → i.natAbs < 2 ^ 64) ∧ (∀ i, o = some i → i.natAbs < 2 ^ 64) ∧ k.natAbs < 2 ^ 64
  | .back p t k => p ≤ 1000 ∧ t ≤ 1000 ∧ k.natAbs < 2 ^ 64
theorem shw_nat {p : Nat} (h : p ≤ 1000) : Shw 1921 0 (.int (p : Int)) := shw_int (by rw [Int.natAbs_natCast]; exact Nat.lt_of_le_of_lt h (by decide))
theorem shw_tx {x : Str} (h : TxOk x) : Shw 1921 0 (.str x) := shw_str h.each (by have := h.hi; omega)
theorem shw_ln : ∀ {n : Line}, n.Sm → Shw 13470 1 (dLn n)
  | .phrase p x k, ⟨a, b, c⟩ => ((ShwAll.cons (shw_str (x := "phrase") (by unfold lowS; decide +kernel) (by decide +kernel)) (.cons (shw_nat a) (.cons (shw_tx b) (.cons (shw_int c) .nil)))).tuple).mono (by decide) (by decide)
  | .put p t x s o k, ⟨a, b, c, d, e, f⟩ => ((ShwAll.cons (shw_str (x := "put") (by unfold lowS; decide +kernel) (by decide +kernel)) (.cons (shw_nat a) (.cons (shw_nat b) (.cons (shw_tx c) (.cons (shw_o d) (.cons (shw_o e) (.cons (shw_int f) .nil))))))).tuple).mono (by decide) (by decide)
  | .back p t k, ⟨a, b, c⟩ => ((ShwAll.cons (shw_str (x := "back") (by unfold lowS; decide +kernel) (by decide +kernel)) (.cons (shw_nat a) (.cons (shw_nat b) (.cons (shw_int c) .nil)))).tuple).mono (by decide) (by decide)
theorem shw_lns {l : List Line} (h : ∀ n ∈ l, n.Sm) (n : l.length ≤ 1000) : Shw 14000000 2 (dLs l) := by
  have h1 : ∀ d ∈ l.map dLn, Shw 13470 1 d := by
    intro d hd
    obtain ⟨e, he, rfl⟩ := List.mem_map.mp hd
    exact shw_ln (h e he)
  have h2 := (shw_all h1).list
  rw [List.length_map] at h2
  exact h2.mono (by
    have : l.length * (13470 + 2) ≤ 1000 * (13470 + 2) := Nat.mul_le_mul_right _ n
    omega) (by decide)
end
def tDat (d : PyData) : TE := fun _ H Q => ∀ (H' : Hp) (v : V), Same H H' → Dn (InH H) H' v d → Q v H'
def tDats (ds : List PyData) : TA := fun _ H Q => ∀ (H' : Hp) (vs : List V), Same H H' → DnAll (InH H) H' vs ds → Q vs H'
section
variable {X : Cx} {e : Expr} {es : List Expr} {p : Pos} {j : Nat} {d : PyData} {ds : List PyData}
theorem PE.imp {t t' : TE} (h : PE X e t) (f : ∀ σ H Q, t' σ H Q → t σ H Q) : PE X e t' := ⟨fun pins z σ H Q I q => h.run pins z σ H Q I (f σ H Q q)⟩
theorem PA.imp {t t' : TA} (h : L2.PA X es t) (f : ∀ σ H Q, t' σ H Q → t σ H Q) : L2.PA X es t' := ⟨fun ps pins z σ H Q I q => h.run ps pins z σ H Q I (f σ H Q q)⟩
theorem pd_int {i : Int} : PE X (.Constant (.int i) j p) (tDat (.int i)) := PE.imp pe_int fun _ H _ q => q H _ (Same.refl _) (.int i)
theorem pd_str {x : Str} : PE X (.Constant (.str x) j p) (tDat (.str x)) := PE.imp pe_str fun _ H _ q => q H _ (Same.refl _) (.str x)
theorem pd_non : PE X (.Constant .none j p) (tDat .none) := PE.imp pe_non fun _ H _ q => q H _ (Same.refl _) .non
theorem pd_bl {b : Bool} : PE X (.Constant (.bool b) j p) (tDat (.bool b)) := PE.imp pe_bl fun _ H _ q => q H _ (Same.refl _) (.bl b)
theorem pd_neg {i : Int} {p' : Pos} : PE X (.UnaryOp .USub (.Constant (.int i) j p) p') (tDat (.int (-i))) := PE.imp (pe_un un_neg pe_int) fun _ H _ q => ⟨i, rfl, q H _ (Same.refl _) (.int (-i))⟩
theorem pd_lst (ha : L2.PA X es (tDats ds)) (hl : ds.length ≤ 1000 := by decide) : PE X (.List es p) (tDat (.list ds)) := by
  refine PE.imp (pe_lst ha) fun σ H Q q H1 vs s1 dn => ⟨?_, fun b nb => ?_⟩
  · rw [dn.len]
    exact Nat.le_of_lt (small1000 hl)
  · exact q _ (.ref b) (s1.trans (same_upd nb)) (.lst (InH.new (s1.free nb)) upd_same (dn.same (same_upd nb)))
theorem pd_tup {c : Nat} (ha : L2.PA X es (tDats ds)) (hl : ds.length ≤ 1000 := by decide) : PE X (.Tuple es c p) (tDat (.tuple ds)) := by
  refine PE.imp (pe_tup ha) fun σ H Q q H1 vs s1 dn => ⟨?_, fun b nb => ?_⟩
  · rw [dn.len]
    exact Nat.le_of_lt (small1000 hl)
  · exact q _ (.ref b) (s1.trans (same_upd nb)) (.tup upd_same (dn.same (same_upd nb)))
theorem pds_nil : L2.PA X [] (tDats []) := PA.imp pa_nil fun _ H _ q => q H [] (Same.refl _) .nil
theorem pds_cons (he : PE X e (tDat d)) (hr : L2.PA X es (tDats ds)) (hst : starEach (e :: es) X.env = (false, eval e X.env) :: starEach es X.env := by rfl) : L2.PA X (e :: es) (tDats (d :: ds)) :=
  PA.imp (pa_cons he hr hst) fun σ H Q q H1 v s1 h1 H2 vs s2 h2 => q H2 (v :: vs) (s1.trans s2) (.cons (h1.same s2) (h2.mono fun _ => InH.same s1))
end
end PD

/-! Phrasedesk: sorted(.., key=f, reverse=b) and max(.., key=f), f a lambda of the def that asks -/
namespace PD
open PySem PySem.Spec PyProof.Rows L2
section
variable {X : Cx} {pl : List (Addr × Obj)} {σ : L2.St} {G : Hp} {z : Shared} {W : Hp → Prop} {A : Around} {E : Value → Shared → Prop}
/-- a record that is ours alone -/
structure Mine (X : Cx) (b : Addr) : Prop where
  loc : b ≠ X.env.locals
  fs : b ∉ X.fs
  own : b ∈ X.ex ∨ X.s_0.heap.objs.size ≤ b
  cell : ∀ x c, X.env.cells.lookup x = some c → c ≠ b
  pn : ∀ p ∈ X.pn, p.1 ≠ b
theorem mine_new {b : Addr} (I : Inv X pl σ G z) (hb : z.heap.objs.size ≤ b) : Mine X b := by
  obtain ⟨_, g1, g2, g3, g4, g5⟩ := I.fpOk (H' := G) hb (I.hok.fresh hb)
  exact ⟨g1, g2, g3, g4, fun p hp => g5 p (List.mem_append_left _ hp)⟩
theorem pin_sub {pl' : List (Addr × Obj)} (I : Inv X pl σ G z) (h : ∀ p ∈ pl', p ∈ pl) : Inv X pl' σ G z := I.pins_of fun p hp => I.pin p (List.mem_append_right _ (h p hp))
theorem pin_more {b : Addr} {o : Obj} {h' : Heap} {t : Nat} (I : Inv X pl σ G z) (k : ∀ c u, z.heap.get? c = some u → h'.get? c = some u) (hb : z.heap.objs.size ≤ b) (e : h'.get? b = some o) (d : ∀ v, o.data ≠ .cell v) :
    Inv X ((b, o) :: pl) σ G { z with heap := h', toks := t } := by
  have m := mine_new I hb
  have J := I.kept (t' := t) k
  refine J.pins_of ?_
  intro p hp
  rcases List.mem_cons.mp hp with rfl | hp
  · exact ⟨e, I.hok.fresh hb, m.loc, m.fs, d⟩
  · exact J.pin p (List.mem_append_right _ hp)
theorem pin_turn {b : Addr} {o o' : Obj} {h' : Heap} {t : Nat} (I : Inv X ((b, o) :: pl) σ G z) (m : Mine X b) (ne : ∀ p ∈ pl, p.1 ≠ b) (k : ∀ c u, c ≠ b → z.heap.get? c = some u → h'.get? c = some u) (e : h'.get? b = some o') (d : ∀ v, o'.data ≠ .cell v) :
    Inv X ((b, o') :: pl) σ G { z with heap := h', toks := t } := by
  obtain ⟨_, n0, _⟩ := I.pin (b, o) (List.mem_append_right _ List.mem_cons_self)
  have I1 : Inv X pl σ G z := pin_sub I fun p hp => List.mem_cons_of_mem _ hp
  have J := I1.turned (t' := t) (it := b) k n0 m.loc m.own m.cell fun p hp => (List.mem_append.mp hp).elim (m.pn p) (ne p)
  refine J.pins_of ?_
  intro p hp
  rcases List.mem_cons.mp hp with rfl | hp
  · exact ⟨e, n0, m.loc, m.fs, d⟩
  · exact J.pin p (List.mem_append_right _ hp)
/-- a record of ours is tracked from now on -/
theorem adopt {b : Addr} {o : Obj} {u : HO} (I : Inv X ((b, o) :: pl) σ G z) (m : Mine X b) (ne : ∀ p ∈ pl, p.1 ≠ b) (ok : ObjOk X.prog X.w (upd G b u) z.heap b u) : Inv X pl σ (upd G b u) z := by
  obtain ⟨e0, n0, _⟩ := I.pin (b, o) (List.mem_append_right _ List.mem_cons_self)
  have I1 : Inv X pl σ G z := pin_sub I fun p hp => List.mem_cons_of_mem _ hp
  have out : ∀ c v, G c = some v → c ≠ b := fun c v e => ne_of_none e n0
  refine I1.step (h' := z.heap) (g' := z.gens) (t' := z.toks) (d' := z.drawn) (ch := [b]) ?_ (fun c o _ _ _ e _ => e) (fun c o _ _ _ e _ => ⟨o.slots, e⟩) ?_ (fun c o _ e => ⟨o, e⟩) ?_ ?_ ?_ (fun _ h => h) ?_ I1.bare
  · intro c hc
    cases (List.mem_singleton.mp hc)
    exact ⟨m.own, m.loc, m.cell, fun p hp => (List.mem_append.mp hp).elim (m.pn p) (ne p)⟩
  · intro c o hc _ n
    rw [upd_ne fun q => hc (by rw [q]; exact List.mem_cons_self)]
    exact n
  · intro c xs e
    rw [upd_ne (out c _ e)]
    exact e
  · intro c o v e
    rw [upd_ne (out c _ e)]
    exact e
  · intro c ps e
    refine ⟨#[], ?_⟩
    rw [upd_ne (out c _ e), e]
    simp
  · intro c v e
    by_cases h : c = b
    · subst h
      rw [upd_same] at e
      cases e
      exact ok
    · rw [upd_ne h] at e
      refine (I1.hok c v e).stay (fun _ _ _ q => q) (fun d q => ?_) fun d xs q => ?_
      · rw [upd_ne (out d _ q)]
        exact q
      · rw [upd_ne (out d _ q)]
        exact q
def Hd (X : Cx) (σ : L2.St) (W : Hp → Prop) (pl : List (Addr × Obj)) (z : Shared) : Prop := ∃ G, Inv X pl σ G z ∧ W G
theorem Hd.turn {b : Addr} {o o' : Obj} {h' : Heap} {t : Nat} (J : Hd X σ W ((b, o) :: pl) z) (m : Mine X b) (ne : ∀ p ∈ pl, p.1 ≠ b) (k : Heap.SameBut b z.heap h') (e : h'.get? b = some o') (d : ∀ v, o'.data ≠ .cell v) :
    Hd X σ W ((b, o') :: pl) { z with heap := h', toks := t } :=
  let ⟨G, I, w⟩ := J
  ⟨G, pin_turn I m ne (fun c u hc q => (k.2 c hc).trans q) e d, w⟩
theorem Hd.sub {pl' : List (Addr × Obj)} (J : Hd X σ W pl z) (h : ∀ p ∈ pl', p ∈ pl) : Hd X σ W pl' z :=
  let ⟨G, I, w⟩ := J
  ⟨G, pin_sub I h, w⟩
theorem Hd.at {b : Addr} {o : Obj} (J : Hd X σ W pl z) (h : (b, o) ∈ pl) : z.heap.get? b = some o :=
  let ⟨_, I, _⟩ := J
  (I.pin (b, o) (List.mem_append_right _ h)).1
theorem seq_no {xs : Array Value} {n : Nat} : ∀ v, (seqObj "list" xs n).data ≠ .cell v := fun v h => by cases h
abbrev flipIf (b : Bool) (xs : Array Keyed) : Array Keyed := if b = true then xs.reverse else xs
section
variable {a kS : Addr} {b : Bool} {vs : List Value} {kz : List Int} {keys : Array Value} {e e1 : Nat} {P : PySem.Fin → Shared → Prop}
theorem srt_tail {st : SortSt} (J : Hd X σ W ((kS, seqObj "list" keys e) :: (a, seqObj "list" #[] e1) :: pl) z) (mk : Mine X kS) (ma : Mine X a) (ka : kS ≠ a) (nk : ∀ p ∈ pl, p.1 ≠ kS) (na : ∀ p ∈ pl, p.1 ≠ a)
    (ki : IntsAre keys.toList kz) (hl : kz.length = vs.length) (hz : vs.length ≤ sizeLine) (pm : (arrOf st).Perm (keys.zip vs.toArray)) (so : SortedTo (arrOf st) (arrOf st).size) (nf : failedOf st = none) (sb : Stable intKind (arrOf st) (flipIf b (keys.zip vs.toArray)))
    (fin : ∀ z' out c, Hd X σ W ((a, seqObj "list" out c) :: pl) z' → KskOutSt b kz vs out.toList → P (.done (.ret .none)) z') : wpAny (model X.prog X.w) A (ksk_tail a b e1 (.ref kS) st) P E z := by
  have big := sizeLine_eq
  have e1k := J.at (b := kS) List.mem_cons_self
  have sz : keys.size = vs.length := by
    have q := ki.length
    rw [Array.length_toList] at q
    omega
  have szA : (arrOf st).size = vs.length := by
    rw [pm.size_eq, Array.size_zip, sz, List.size_toArray, Nat.min_self]
  have szO : (if b then ((arrOf st).map (·.2)).reverse else (arrOf st).map (·.2)).size = vs.length := by
    cases b with
    | true => simpa using szA
    | false => simpa using szA
  obtain ⟨c1, at1⟩ : ∃ c1, (z.heap.update kS (Obj.mapSeq fun _ => (#[] : Array Value))).get? kS = some (seqObj "list" #[] c1) := ⟨_, get?_update_seq e1k fun _ => #[]⟩
  have J1 := J.turn (t := z.toks) mk (fun p hp => (List.mem_cons.mp hp).elim (fun q => by rw [q]; exact ka.symm) (nk p)) (Heap.SameBut.update z.heap kS _) at1 seq_no
  have J2 := J1.sub (pl' := (a, seqObj "list" #[] e1) :: pl) fun p hp => List.mem_cons_of_mem _ hp
  have atA : (z.heap.update kS (Obj.mapSeq fun _ => (#[] : Array Value))).get? a = some (seqObj "list" #[] e1) := J2.at (b := a) List.mem_cons_self
  have good := ksk_outSt ki pm so sb
  have at2e : ∀ out : Array Value, ∃ c2, ((z.heap.update kS (Obj.mapSeq fun _ => (#[] : Array Value))).update a (Obj.mapSeq fun _ => out)).get? a = some (seqObj "list" out c2) := fun out => ⟨_, get?_update_seq atA fun _ => out⟩
  obtain ⟨c2, at2⟩ := at2e (if b then ((arrOf st).map (·.2)).reverse else (arrOf st).map (·.2))
  have J3 := J2.turn (t := z.toks) ma na (Heap.SameBut.update _ a _) at2 seq_no
  unfold ksk_tail
  try dsimp only
  refine wpAny_bind (listUpdate_at e1k rfl ?_ (by rw [sz]; omega) (Nat.zero_le _))
  refine wpAny_bind (wpAny_letGo (wpAny_bind (seqEpoch_at atA rfl ?_)))
  refine wpAny_bind (listUpdate_at atA rfl ?_ (Nat.zero_le _) (by rw [szO]; omega))
  rw [nf]
  simp only [bne_self_eq_false, Bool.false_eq_true, if_false]
  exact wpAny_pure (fin _ _ c2 J3 good)
theorem srt_end (J : Hd X σ W ((kS, seqObj "list" keys e) :: (a, seqObj "list" #[] e1) :: pl) z) (mk : Mine X kS) (ma : Mine X a) (ka : kS ≠ a) (nk : ∀ p ∈ pl, p.1 ≠ kS) (na : ∀ p ∈ pl, p.1 ≠ a)
    (ki : IntsAre keys.toList kz) (hl : kz.length = vs.length) (hz : vs.length ≤ sizeLine)
    (fin : ∀ z' out c, Hd X σ W ((a, seqObj "list" out c) :: pl) z' → KskOutSt b kz vs out.toList → P (.done (.ret .none)) z') : wpAny (model X.prog X.w) A (ksk_end a b vs.toArray e1 (.ref kS) keys) P E z := by
  have sz : keys.size = vs.length := by
    have q := ki.length
    rw [Array.length_toList] at q
    omega
  have szZ : (keys.zip vs.toArray).size = vs.length := by
    rw [Array.size_zip, sz, List.size_toArray, Nat.min_self]
  have first : ∀ t : Sem PySem.Fin, wpAny (model X.prog X.w) A t P E z → wpAny (model X.prog X.w) A (if b = true then (do let _ ← rule "list.sort.reverse"; t) else t) P E z := by
    intro t h
    cases b with
    | true => exact wpAny_bind (wpAny_rule h)
    | false => exact h
  have pm0 : (flipIf b (keys.zip vs.toArray)).Perm (keys.zip vs.toArray) := by
    cases b with
    | true =>
      refine Array.perm_iff_toList_perm.mpr ?_
      show ((keys.zip vs.toArray).reverse).toList.Perm _
      rw [Array.toList_reverse]
      exact List.reverse_perm _
    | false => exact Array.Perm.refl _
  have sz0 : (flipIf b (keys.zip vs.toArray)).size = vs.length := pm0.size_eq.trans szZ
  unfold ksk_end
  try dsimp only
  refine first _ ?_
  by_cases h2 : vs.length < 2
  · rw [if_pos (show vs.toArray.size < 2 by simpa using h2), if_pos (show vs.toArray.size < 2 by simpa using h2)]
    refine wpAny_bind (wpAny_pure ?_)
    rw [StateT.run_pure]
    refine wpAny_bind (wpAny_pure ?_)
    try dsimp only
    refine srt_tail (st := SortSt.mk' general' (flipIf b (keys.zip vs.toArray)) #[] 7 none) J mk ma ka nk na ki hl hz pm0 ?_ rfl (Stable.refl _) fin
    intro i j ij hj
    have hj2 : j < (flipIf b (keys.zip vs.toArray)).size := hj
    rw [sz0] at hj2
    clear hj
    have same : i = j := by omega
    rw [same]
    exact Int.le_refl _
  · rw [if_neg (show ¬ vs.toArray.size < 2 by simpa using h2), if_neg (show ¬ vs.toArray.size < 2 by simpa using h2), ksk_kind ki (by omega)]
    refine wpAny_bind (wpAny_pure (wpAny_bind (wpAny_mono (wpS_sortRunsSt (κ := intKind) (a₀ := flipIf b (keys.zip vs.toArray)) (st := SortSt.mk' oneType' (flipIf b (keys.zip vs.toArray)) #[] 7 none)
      (Q := fun _ t => (arrOf t).Perm (keys.zip vs.toArray) ∧ failedOf t = none ∧ SortedTo (arrOf t) (arrOf t).size ∧ Stable intKind (arrOf t) (flipIf b (keys.zip vs.toArray)))
      intKind_oneLt ((ksk_keysOfInt (ksk_intKeys ki)).perm pm0) ⟨Array.Perm.refl _, rfl, rfl⟩ rfl (Stable.refl _) ?_ fun t a1 a2 a3 a4 => ⟨a1.trans pm0, a2, ?_, a4⟩) ?_ fun _ _ h => h)))
    · have := sizeLine_eq
      rw [sz0]
      omega
    · rw [a1.size_eq]
      exact sortedTo_of_int a3
    · rintro ⟨⟨⟩, t⟩ z' ⟨rfl, q1, q2, q3, q4⟩
      try dsimp only
      exact srt_tail J mk ma ka nk na ki hl hz q1 q3 q2 q4 fin
/-- how the key is asked -/
def Asks (X : Cx) (σ : L2.St) (W : Hp → Prop) (A : Around) (f : Value) (vs : List Value) (kz : List Int) (keep : List (Addr × Obj)) : Prop :=
  ∀ (i : Nat) (v : Value) (k : Int) (pl : List (Addr × Obj)) (z : Shared), vs[i]? = some v → kz[i]? = some k → (∀ p ∈ keep, p ∈ pl) → Hd X σ W pl z →
    wpAny (model X.prog X.w) A (call f [v]) (fun r z' => ∃ t, r = .int k t ∧ Hd X σ W pl z') (fun _ _ => False) z
theorem srt_rest {f : Value} (J : Hd X σ W ((kS, seqObj "list" #[] 0) :: (a, seqObj "list" #[] e1) :: pl) z) (mk : Mine X kS) (ma : Mine X a) (ka : kS ≠ a) (nk : ∀ p ∈ pl, p.1 ≠ kS) (na : ∀ p ∈ pl, p.1 ≠ a)
    (hl : kz.length = vs.length) (hz : vs.length ≤ sizeLine) (ask : Asks X σ W A f vs kz pl)
    (fin : ∀ z' out c, Hd X σ W ((a, seqObj "list" out c) :: pl) z' → KskOutSt b kz vs out.toList → P (.done (.ret .none)) z') : wpAny (model X.prog X.w) A (ksk_rest a f b vs.toArray e1 (.ref kS)) P E z := by
  have big := sizeLine_eq
  unfold ksk_rest
  refine wpAny_bind (wpAny_rule ?_)
  rw [← Array.forIn_toList]
  simp only [List.toList_toArray]
  refine wpAny_bind (ksk_fold (fun i z' => ∃ (kA : Array Value) (n : Nat), Hd X σ W ((kS, seqObj "list" kA n) :: (a, seqObj "list" #[] e1) :: pl) z' ∧ IntsAre kA.toList (kz.take i)) vs 0 z ⟨#[], 0, J, by simpa using IntsAre.nil⟩ ?_ ?_)
  · rintro j x z' hx ⟨kA, n, J', hk⟩
    rw [Nat.zero_add] at hk ⊢
    have jl : j < vs.length := (List.getElem?_eq_some_iff.mp hx).1
    obtain ⟨k, hkj⟩ : ∃ k, kz[j]? = some k := ⟨_, List.getElem?_eq_getElem (by omega)⟩
    have szk : kA.size ≤ vs.length := by
      have q := hk.length
      rw [Array.length_toList, List.length_take] at q
      omega
    refine wpAny_bind (wpAny_attempt (wpAny_mono (ask j x k _ z' hx hkj (fun p hp => List.mem_cons_of_mem _ (List.mem_cons_of_mem _ hp)) J') ?_ fun _ _ h => h.elim))
    rintro r z2 ⟨t, rfl, J2⟩
    try dsimp only
    have at1 := J2.at (b := kS) List.mem_cons_self
    obtain ⟨c, at2⟩ : ∃ c, (z2.heap.update kS (Obj.mapSeq (·.push (.int k t)))).get? kS = some (seqObj "list" (kA.push (.int k t)) c) := ⟨_, get?_update_seq at1 (·.push (.int k t))⟩
    have J3 := J2.turn (t := z2.toks) mk (fun p hp => (List.mem_cons.mp hp).elim (fun q => by rw [q]; exact ka.symm) (nk p)) (Heap.SameBut.update z2.heap kS _) at2 seq_no
    refine wpAny_bind (listUpdate_at at1 rfl ?_ (by omega) (by rw [Array.size_push]; omega))
    refine wpAny_pure ⟨rfl, kA.push (.int k t), c, J3, ?_⟩
    have tk : kz.take (j + 1) = kz.take j ++ [k] := by
      rw [List.take_add_one, hkj]
      rfl
    rw [tk, Array.toList_push]
    exact ksk_snoc hk
  · rintro z' ⟨kA, n, J', hk⟩
    rw [Nat.zero_add, List.take_of_length_le (by omega)] at hk
    try dsimp only
    exact wpAny_bind (listItems_at (J'.at (b := kS) List.mem_cons_self) rfl (srt_end J' mk ma ka nk na hk hl hz fin))
theorem srt_tree {f : Value} {n : Nat} (J : Hd X σ W ((a, seqObj "list" vs.toArray n) :: pl) z) (ma : Mine X a) (na : ∀ p ∈ pl, p.1 ≠ a) (hl : kz.length = vs.length) (hz : vs.length ≤ sizeLine) (ask : Asks X σ W A f vs kz pl)
    (fin : ∀ z' out c, Hd X σ W ((a, seqObj "list" out c) :: pl) z' → KskOutSt b kz vs out.toList → P (.done (.ret .none)) z') : wpAny (model X.prog X.w) A (ksk_tree a f b) P E z := by
  have big := sizeLine_eq
  have at0 := J.at (b := a) List.mem_cons_self
  have la : a < z.heap.objs.size := Heap.lt_size at0
  have ex1 : ∃ c, (z.heap.update a (Obj.mapSeq fun _ => (#[] : Array Value))).get? a = some (seqObj "list" #[] c) := ⟨_, get?_update_seq at0 fun _ => #[]⟩
  obtain ⟨c1, at1⟩ := ex1
  have J1 := J.turn (t := z.toks) ma na (Heap.SameBut.update z.heap a _) at1 seq_no
  unfold ksk_tree
  refine wpAny_bind (listItems_at at0 rfl ?_)
  refine wpAny_bind (listUpdate_at at0 rfl ?_ (by rw [List.size_toArray]; omega) (Nat.zero_le _))
  refine wpAny_bind (seqEpoch_at at1 rfl ?_)
  refine wpAny_bind (wpAny_newTuple ?_ (by show vs.length ≤ _; omega))
  refine wpAny_bind (wpAny_newList ?_ (Nat.zero_le _))
  refine wpAny_holding ?_
  have sz1 : ((z.heap.update a (Obj.mapSeq fun _ => (#[] : Array Value))).push (seqObj "tuple" vs.toArray 0)).objs.size = z.heap.objs.size + 1 := by rw [size_push', Heap.size_update]
  have sz0 : (z.heap.update a (Obj.mapSeq fun _ => (#[] : Array Value))).objs.size = z.heap.objs.size := Heap.size_update ..
  obtain ⟨G1, I1, w1⟩ := id J1
  have le1 : (z.heap.update a (Obj.mapSeq fun _ => (#[] : Array Value))).objs.size ≤ ((z.heap.update a (Obj.mapSeq fun _ => (#[] : Array Value))).push (seqObj "tuple" vs.toArray 0)).objs.size := by rw [sz1, sz0]; exact Nat.le_succ _
  have I2 := pin_more (t := z.toks) (h' := ((z.heap.update a (Obj.mapSeq fun _ => (#[] : Array Value))).push (seqObj "tuple" vs.toArray 0)).push (seqObj "list" #[] 0)) I1 (fun _ _ q => Heap.get?_push_of_some _ (Heap.get?_push_of_some _ q)) le1 (Heap.get?_push_size _ rfl) seq_no
  have ka : ((z.heap.update a (Obj.mapSeq fun _ => (#[] : Array Value))).push (seqObj "tuple" vs.toArray 0)).objs.size ≠ a := by
    rw [sz1]
    exact Nat.ne_of_gt (Nat.lt_succ_of_lt la)
  refine srt_rest ⟨G1, I2, w1⟩ (mine_new I1 le1) ma ka (fun p hp => ?_) na hl hz ask fin
  rw [sz1]
  have lp : p.1 < z.heap.objs.size := Heap.lt_size (J.at (b := p.1) (o := p.2) (List.mem_cons_of_mem _ hp))
  exact Nat.ne_of_lt (Nat.lt_succ_of_lt lp)
theorem srt_sorted {l : Addr} {f : Value} {kw : List (Str × Value)} {Q : Value → Shared → Prop} (J : Hd X σ W pl z) (il : z.heap.IsList l vs.toArray) (hl : kz.length = vs.length) (hz : vs.length ≤ sizeLine)
    (ok1 : argsOk "sorted" ⟨[.ref l], kw⟩) (ok2 : ∀ x, argsOk "list.sort" ⟨[.ref x], kw⟩) (tree : ∀ x, Builtin.«list.sort» ⟨[.ref x], kw⟩ = ksk_tree x f b) (ask : Asks X σ W A.in1.in1 f vs kz pl)
    (fin : ∀ D z' out c, Hd X σ W ((D, seqObj "list" out c) :: pl) z' → Mine X D → (∀ p ∈ pl, p.1 ≠ D) → KskOutSt b kz vs out.toList → Q (.ref D) z') : wpAny (model X.prog X.w) A (call (.builtin "sorted") [.ref l] kw) Q E z := by
  have big := sizeLine_eq
  refine call_function_entry_kw kind_sorted plain_sorted entry_sorted ok1 ?_
  unfold Builtin.«sorted»
  refine wpAny_bind (m := checkCount "sorted" 1 1 _) (wpAny_pure (wpAny_bind (collect_list il ?_ (by omega))))
  refine wpAny_bind (wpAny_newList ?_ (by omega))
  have sz1 : ((z.heap.push (seqObj "list" #[] 0)).update z.heap.objs.size (Obj.mapSeq (· ++ vs.toArray))).objs.size = z.heap.objs.size + 1 := by rw [Heap.size_update, size_push']
  have at1 : (((z.heap.push (seqObj "list" #[] 0)).update z.heap.objs.size (Obj.mapSeq (· ++ vs.toArray))).push (seqObj "list" vs.toArray 0)).get? (z.heap.objs.size + 1) = some (seqObj "list" vs.toArray 0) := by
    rw [← sz1]
    exact Heap.get?_push_size _ rfl
  have kp : ∀ c u, z.heap.get? c = some u → (((z.heap.push (seqObj "list" #[] 0)).update z.heap.objs.size (Obj.mapSeq (· ++ vs.toArray))).push (seqObj "list" vs.toArray 0)).get? c = some u := by
    intro c u q
    have lt : c < z.heap.objs.size := Heap.lt_size q
    refine Heap.get?_push_of_some _ ?_
    rw [Heap.get?_update_ne _ _ _ _ (Nat.ne_of_lt lt)]
    exact Heap.get?_push_of_some _ q
  obtain ⟨G0, I0, w0⟩ := id J
  have I1 := pin_more (t := z.toks) I0 kp (Nat.le_succ _) at1 seq_no
  show wpAny _ _ _ _ _ { z with heap := ((z.heap.push (seqObj "list" #[] 0)).update z.heap.objs.size (Obj.mapSeq (· ++ vs.toArray))).push (seqObj "list" vs.toArray 0) }
  rw [sz1]
  have npl : ∀ p ∈ pl, p.1 ≠ z.heap.objs.size + 1 := fun p hp => Nat.ne_of_lt (Nat.lt_succ_of_lt (Heap.lt_size (J.at (b := p.1) (o := p.2) hp)))
  refine wpAny_bind (wpAny_holding (wpAny_call_entry_kw slot_list_sort ⟨_, at1, rfl⟩ entry_list_sort ?_ (ok2 _)))
  rw [tree]
  refine srt_tree ⟨G0, I1, w0⟩ (mine_new I0 (Nat.le_succ _)) npl hl hz ask ?_
  intro z' out c J' ko
  exact ⟨_, rfl, wpAny_pure ⟨_, rfl, fin _ z' out c J' (mine_new I0 (Nat.le_succ _)) npl ko⟩⟩
end
end
end PD

/-! Phrasedesk: max(.., key=f) -/
namespace PD
open PySem PySem.Spec PyProof.Rows L2
section
variable {X : Cx} {pl : List (Addr × Obj)} {σ : L2.St} {G : Hp} {z : Shared} {W : Hp → Prop} {A : Around} {E : Value → Shared → Prop} {l q it S : Addr} {xs : List V} {kz : List Int} {R : Result → Shared → Prop} {Q : Value → Shared → Prop}
abbrev kAt (kz : List Int) (i : Nat) : Int := kz.getD i 0
theorem kAt_some {i : Nat} (h : i < kz.length) : kz[i]? = some (kAt kz i) := by
  rw [List.getElem?_eq_getElem h]
  simp [kAt, h]
/-- how the key is asked, by the values -/
def AsksV (X : Cx) (σ : L2.St) (W : Hp → Prop) (A : Around) (f : Value) (xs : List V) (kz : List Int) (keep : List (Addr × Obj)) : Prop :=
  ∀ (i : Nat) (x : V) (v : Value) (k : Int) (pl : List (Addr × Obj)) (z : Shared), xs[i]? = some x → RelV x v → kz[i]? = some k → (∀ p ∈ keep, p ∈ pl) → Hd X σ W pl z →
    wpAny (model X.prog X.w) A (call f [v]) (fun r z' => ∃ t, r = .int k t ∧ Hd X σ W pl z') (fun _ _ => False) z
theorem AsksV.of {f : Value} {vs : List Value} (h : AsksV X σ W A f xs kz pl) (r : Vals xs vs) : Asks X σ W A f vs kz pl := by
  intro i v k pl' z ev ek hp J
  have li : i < vs.length := (List.getElem?_eq_some_iff.mp ev).1
  have li2 : i < xs.length := by
    rw [r.length]
    exact li
  have ex : xs[i]? = some xs[i] := List.getElem?_eq_getElem li2
  obtain ⟨u, eu, ru⟩ := r.get ex
  rw [ev] at eu
  cases eu
  exact h i _ v k pl' z ex ru ek hp J
/-- the first of the greatest so far -/
def Best (kz : List Int) (n i : Nat) : Prop := ∀ j, j < n → kAt kz j ≤ kAt kz i ∧ (j < i → kAt kz j < kAt kz i)
theorem turned_pin {h' : Heap} {t : Nat} {o o' : Obj} {b : Addr} (J : Hd X σ W ((b, o) :: pl) z) (m : Mine X b) (ne : ∀ p ∈ pl, p.1 ≠ b) (k : ∀ c u, c ∉ [b] → z.heap.get? c = some u → h'.get? c = some u) (e : h'.get? b = some o') (d : ∀ v, o'.data ≠ .cell v) :
    Hd X σ W ((b, o') :: pl) { z with heap := h', toks := t } :=
  let ⟨G, I, w⟩ := J
  ⟨G, pin_turn I m ne (fun c u hc => k c u fun h => hc (List.mem_singleton.mp h)) e d, w⟩
theorem turned_drop {h' : Heap} {t : Nat} {o : Obj} {b : Addr} (J : Hd X σ W ((b, o) :: pl) z) (m : Mine X b) (ne : ∀ p ∈ pl, p.1 ≠ b) (k : ∀ c u, c ∉ [b] → z.heap.get? c = some u → h'.get? c = some u) : Hd X σ W pl { z with heap := h', toks := t } := by
  obtain ⟨G, I, w⟩ := J
  have n0 := (I.pin (b, o) (List.mem_append_right _ List.mem_cons_self)).2.1
  have I1 : Inv X pl σ G z := pin_sub I fun p hp => List.mem_cons_of_mem _ hp
  exact ⟨G, I1.turned (t' := t) (it := b) (fun c u hc => k c u fun h => hc (List.mem_singleton.mp h)) n0 m.loc m.own m.cell fun p hp => (List.mem_append.mp hp).elim (m.pn p) (ne p), w⟩
theorem Hd.swap {a b : Addr × Obj} (J : Hd X σ W (a :: b :: pl) z) : Hd X σ W (b :: a :: pl) z := J.sub fun p hp => by
  rcases List.mem_cons.mp hp with h | h
  · rw [h]
    exact List.mem_cons_of_mem _ List.mem_cons_self
  · rcases List.mem_cons.mp h with h | h
    · rw [h]
      exact List.mem_cons_self
    · exact List.mem_cons_of_mem _ (List.mem_cons_of_mem _ h)
theorem Hd.tail {a : Addr × Obj} (J : Hd X σ W (a :: pl) z) : Hd X σ W pl z := J.sub fun p hp => List.mem_cons_of_mem _ hp
theorem not_pl {b : Addr} {o : Obj} (nb : ∀ p ∈ pl, p.1 ≠ b) {a : Addr} (h : a ≠ b) : ∀ p ∈ (a, o) :: pl, p.1 ≠ b := fun p hp => (List.mem_cons.mp hp).elim (fun e => by rw [e]; exact h) (nb p)
theorem iter_no {l : Addr} {n : Nat} {h : Heap} {o : Obj} (hit : h.IsListIter it l n) (e : h.get? it = some o) : ∀ v, o.data ≠ .cell v := by
  obtain ⟨o', e', _, d⟩ := hit
  rw [e] at e'
  cases e'
  intro v h
  rw [d] at h
  cases h
theorem max_go (hc : A.handled = none) (isl : ∀ z, Hd X σ W pl z → ∃ vs : List Value, Vals xs vs ∧ z.heap.IsList l vs.toArray) (hl : kz.length = xs.length) (mI : Mine X it) (mS : Mine X S) (lI : l ≠ it) (SI : S ≠ it) (nS : ∀ p ∈ pl, p.1 ≠ S) (nI : ∀ p ∈ pl, p.1 ≠ it)
    (ask : AsksV X σ W A.in1 (.ref q) xs kz pl) (fin : ∀ i x v z', xs[i]? = some x → RelV x v → Best kz xs.length i → Hd X σ W pl z' → R (.ok (.ret v)) z') :
    ∀ (r j i : Nat) (z : Shared) (xb : V) (vb : Value) (tb : Tok) (c : Nat) (oI : Obj), xs.length - (j + 1) = r → j + 1 ≤ xs.length → Hd X σ W ((S, seqObj "list" #[vb, .int (kAt kz i) tb] c) :: (it, oI) :: pl) z → z.heap.IsListIter it l (j + 1) →
      xs[i]? = some xb → RelV xb vb → i ≤ j → Best kz (j + 1) i → codeAny (model X.prog X.w) A (.builtin "max.loop" ⟨[.ref it, .ref q, .ref S], []⟩) R z := by
  have nm : (toString "max" ++ toString ".loop" : String) = "max.loop" := by decide
  intro r
  induction r with
  | zero =>
    intro j i z xb vb tb c oI hr hj J hit hv rb ij best
    obtain ⟨vs, rv, il⟩ := isl z J.tail.tail
    have wk := Walks.list (prog := X.prog) (w := X.w) (A := A.in1) hc it l lI vs.toArray
    have sz : vs.toArray.size = xs.length := (List.size_toArray ..).trans rv.length.symm
    have ej : j + 1 = xs.length := by omega
    have atS := J.at (b := S) List.mem_cons_self
    refine codeAny_builtin PySem.F.entry_max_loop ?_
    rw [Around.under_plainId PySem.F.plain_max_loop _]
    show wpAny _ A.in1 (seqItems? (.ref S) >>= _) _ _ _
    refine wpAny_bind (wpAny_seqItems atS rfl ?_)
    show wpAny _ A.in1 (tryCatch (pyNext (.ref it)) _ >>= _) _ _ _
    refine wpAny_bind (wpAny_tryCatch (wk.done z _ _ ⟨by rw [sz, ← ej]; exact hit, il⟩ fun h' tk' hk' => ?_))
    have J1 := turned_drop (t := tk') J.swap mI (not_pl nI SI) hk'
    have atS1 := J1.at (b := S) List.mem_cons_self
    show wpAny _ A.in1 (updateSeq S (fun _ => #[]) >>= _) _ _ _
    refine wpAny_bind (wpAny_updateSeq atS1 rfl (wpAny_bind (wpAny_letGo (wpAny_pure ?_))))
    have sb := Heap.SameBut.update h' S (Obj.mapSeq fun _ => (#[] : Array Value))
    have J2 := turned_drop (t := tk') (h' := h'.update S (Obj.mapSeq fun _ => (#[] : Array Value))) J1 mS nS fun c u hc e => (sb.2 c fun h => hc (by rw [h]; exact List.mem_cons_self)).trans e
    exact fin i xb vb _ hv rb (by rw [← ej]; exact best) J2
  | succ r ih =>
    intro j i z xb vb tb c oI hr hj J hit hv rb ij best
    obtain ⟨vs, rv, il⟩ := isl z J.tail.tail
    have wk := Walks.list (prog := X.prog) (w := X.w) (A := A.in1) hc it l lI vs.toArray
    have sz : vs.toArray.size = xs.length := (List.size_toArray ..).trans rv.length.symm
    have lt : j + 1 < xs.length := by omega
    have ex1 : xs[j + 1]? = some xs[j + 1] := List.getElem?_eq_getElem lt
    have atS := J.at (b := S) List.mem_cons_self
    refine codeAny_builtin PySem.F.entry_max_loop ?_
    rw [Around.under_plainId PySem.F.plain_max_loop _]
    show wpAny _ A.in1 (seqItems? (.ref S) >>= _) _ _ _
    refine wpAny_bind (wpAny_seqItems atS rfl ?_)
    show wpAny _ A.in1 (tryCatch (pyNext (.ref it)) _ >>= _) _ _ _
    refine wpAny_bind (wpAny_tryCatch (wk.item (j + 1) z _ _ (by rw [sz]; exact lt) ⟨hit, il⟩ fun v h' tk' hp st' hk' => ?_))
    have ev : vs[j + 1]? = some v := by simpa using hp
    obtain ⟨v', ev', r1⟩ := rv.get ex1
    rw [ev] at ev'
    cases ev'
    obtain ⟨o', e', c', d'⟩ := id st'.1
    have J1 := turned_pin (t := tk') (o' := o') J.swap mI (not_pl nI SI) hk' e' (iter_no st'.1 e')
    show wpAny _ A.in1 (tryCatch (holding [v] (call (.ref q) [v])) _ >>= _) _ _ _
    refine wpAny_bind (wpAny_tryCatch (wpAny_holding (wpAny_mono (ask (j + 1) _ v _ _ _ ex1 r1 (kAt_some (by omega)) (fun p hp => List.mem_cons_of_mem _ (List.mem_cons_of_mem _ hp)) J1) ?_ fun _ _ h => h.elim)))
    rintro x z2 ⟨t2, rfl, J2⟩
    have atI2 := J2.at (b := it) List.mem_cons_self
    have J3 := J2.swap
    have atS2 := J3.at (b := S) List.mem_cons_self
    show wpAny _ A.in1 (tryCatch (holding [v, .int (kAt kz (j + 1)) t2] (richCompare .Gt (.int (kAt kz (j + 1)) t2) (.int (kAt kz i) tb) >>= _)) _ >>= _) _ _ _
    refine wpAny_bind (wpAny_tryCatch (wpAny_holding (wpAny_bind (CmpOf.ints_gt (prog := X.prog) (w := X.w) (A := A.in1) (P := fun i v => ∃ t, v = .int (kAt kz i) t) (kAt kz) (fun i v h => h) (j + 1) i _ _ _ _ _ ⟨t2, rfl⟩ ⟨tb, rfl⟩ ?_))))
    refine wpAny_bind (wpAny_holding (wpAny_truthy_bool (wpAny_bind (wpAny_letGo (wpAny_pure ?_)))))
    by_cases gt : kAt kz (j + 1) > kAt kz i
    · have sb := Heap.SameBut.update z2.heap S (Obj.mapSeq fun _ => #[v, .int (kAt kz (j + 1)) t2])
      have ex : ∃ c2, (z2.heap.update S (Obj.mapSeq fun _ => #[v, .int (kAt kz (j + 1)) t2])).get? S = some (seqObj "list" #[v, .int (kAt kz (j + 1)) t2] c2) := ⟨_, get?_update_seq atS2 fun _ => #[v, .int (kAt kz (j + 1)) t2]⟩
      obtain ⟨c2, at3⟩ := ex
      have J4 := J3.turn (t := z2.toks) mS (not_pl nS SI.symm) sb at3 seq_no
      simp only [gt, decide_true, if_true]
      refine wpAny_bind (wpAny_updateSeq atS2 rfl (wpAny_bind (wpAny_letGo ?_)))
      rw [nm]
      refine wpAny_pure ⟨plainId_quiet PySem.F.plain_max_loop _, ih (j + 1) (j + 1) _ _ v t2 c2 o' (by omega) lt J4 ⟨o', (sb.2 it SI.symm).trans atI2, c', d'⟩ ex1 r1 (Nat.le_refl _) ?_⟩
      intro k hk
      by_cases e : k = j + 1
      · rw [e]
        exact ⟨Int.le_refl _, fun h => absurd h (Nat.lt_irrefl _)⟩
      · have b1 := (best k (by omega)).1
        exact ⟨by omega, fun _ => by omega⟩
    · simp only [gt, decide_false, Bool.false_eq_true, if_false]
      refine wpAny_bind (wpAny_letGo ?_)
      rw [nm]
      refine wpAny_pure ⟨plainId_quiet PySem.F.plain_max_loop _, ih (j + 1) i _ xb vb tb c o' (by omega) lt J3 ⟨o', atI2, c', d'⟩ hv rb (by omega) ?_⟩
      intro k hk
      by_cases e : k = j + 1
      · rw [e]
        exact ⟨by omega, fun h => by omega⟩
      · exact best k (by omega)
theorem max_key (hc : A.handled = none) (J : Hd X σ W pl z) (isl : ∀ z, Hd X σ W pl z → ∃ vs : List Value, Vals xs vs ∧ z.heap.IsList l vs.toArray) (hl : kz.length = xs.length) (ne : 0 < xs.length) (ask : AsksV X σ W A.in1 (.ref q) xs kz pl)
    (fin : ∀ i x v z', xs[i]? = some x → RelV x v → Best kz xs.length i → Hd X σ W pl z' → Q v z') : wpAny (model X.prog X.w) A (call (.builtin "max") [.ref l] [(Str.ofString "key", .ref q)]) Q E z := by
  have nm : (toString "max" ++ toString ".loop" : String) = "max.loop" := by decide
  obtain ⟨vs, rv, il⟩ := isl z J
  have ex1 : xs[0]? = some xs[0] := List.getElem?_eq_getElem ne
  obtain ⟨ol, atl, _⟩ := id il
  have ll : l < z.heap.objs.size := Heap.lt_size atl
  refine kmk_tree PySem.F.kind_max PySem.F.plain_max PySem.F.entry_max (kmk_max_key _ _) ?_
  show wpAny _ A.in1 (Builtin.Builtins.bindParams "max" ["key", "default"] 0 ⟨[], [(Str.ofString "key", .ref q)]⟩ >>= _) _ _ z
  refine wpAny_bind (wpAny_of_eq (show _ = pure [some (Value.ref q), none] from rfl) (wpAny_bind (wpAny_pure ?_)))
  refine wpAny_bind (wpAny_pyIter_list il (wpAny_bind (wpAny_newList ?_ (Nat.zero_le _))))
  rw [nm]
  obtain ⟨G0, I0, w0⟩ := id J
  have no : ∀ v, (⟨.type "list_iterator", none, .fields #[.ref l, .int 0 0], #[]⟩ : Obj).data ≠ .cell v := fun v h => by cases h
  generalize eo : (⟨.type "list_iterator", none, .fields #[.ref l, .int 0 0], #[]⟩ : Obj) = o0 at no
  show wpAny _ _ (again (.builtin "max.loop" ⟨[.ref z.heap.objs.size, .ref q, .ref (z.heap.push o0).objs.size], []⟩)) _ _ { z with heap := (z.heap.push o0).push (seqObj "list" #[] 0) }
  have d0 : o0.cls = .type "list_iterator" ∧ o0.data = .fields #[.ref l, .int 0 0] := by
    rw [← eo]
    exact ⟨rfl, rfl⟩
  have sz1 : (z.heap.push o0).objs.size = z.heap.objs.size + 1 := size_push' ..
  have mI := mine_new I0 (Nat.le_refl z.heap.objs.size)
  have I1 := pin_more (t := z.toks) I0 (fun c u e => Heap.get?_push_of_some o0 e) (Nat.le_refl _) (Heap.get?_push_size _ (by rw [← eo]; rfl)) no
  have I2 := pin_more (t := z.toks) (h' := (z.heap.push o0).push (seqObj "list" #[] 0)) I1 (fun c u e => Heap.get?_push_of_some _ e) (Nat.le_refl _) (Heap.get?_push_size _ rfl) seq_no
  have mS := mine_new I1 (Nat.le_refl (z.heap.push o0).objs.size)
  have J2 : Hd X σ W (((z.heap.push o0).objs.size, seqObj "list" #[] 0) :: (z.heap.objs.size, o0) :: pl) { z with heap := (z.heap.push o0).push (seqObj "list" #[] 0) } := ⟨G0, I2, w0⟩
  have SI : (z.heap.push o0).objs.size ≠ z.heap.objs.size := by
    rw [sz1]
    exact Nat.ne_of_gt (Nat.lt_succ_self _)
  have npl : ∀ p ∈ pl, p.1 < z.heap.objs.size := fun p hp => Heap.lt_size (J.at (b := p.1) (o := p.2) hp)
  have nI : ∀ p ∈ pl, p.1 ≠ z.heap.objs.size := fun p hp => Nat.ne_of_lt (npl p hp)
  have nS : ∀ p ∈ pl, p.1 ≠ (z.heap.push o0).objs.size := fun p hp => by
    rw [sz1]
    exact Nat.ne_of_lt (Nat.lt_succ_of_lt (npl p hp))
  have lI : l ≠ z.heap.objs.size := Nat.ne_of_lt ll
  have go := max_go (R := fun r z' => match r with | .ok (.ret v) => Q v z' | .ok _ => False | .error e => E e z') (q := q) hc isl hl mI mS lI SI nS nI ask fun i x v z' a b c d => fin i x v z' a b c d
  refine wpAny_pure ⟨plainId_quiet PySem.F.plain_max_loop _, ?_⟩
  refine codeAny_builtin PySem.F.entry_max_loop ?_
  rw [Around.under_plainId PySem.F.plain_max_loop _]
  have atS := J2.at (b := (z.heap.push o0).objs.size) List.mem_cons_self
  have atI := J2.at (b := z.heap.objs.size) (List.mem_cons_of_mem _ List.mem_cons_self)
  generalize (z.heap.push o0).objs.size = S at *
  generalize (z.heap.push o0).push (seqObj "list" #[] 0) = h2 at *
  show wpAny _ A.in1 (seqItems? (.ref _) >>= _) _ _ _
  refine wpAny_bind (wpAny_seqItems atS rfl ?_)
  show wpAny _ A.in1 (tryCatch (pyNext (.ref z.heap.objs.size)) _ >>= _) _ _ _
  obtain ⟨vs2, rv2, il2⟩ := isl _ J2.tail.tail
  have wk := Walks.list (prog := X.prog) (w := X.w) (A := A.in1) hc z.heap.objs.size l lI vs2.toArray
  have sz : vs2.toArray.size = xs.length := (List.size_toArray ..).trans rv2.length.symm
  refine wpAny_bind (wpAny_tryCatch (wk.item 0 _ _ _ (by rw [sz]; exact ne) ⟨⟨_, atI, d0.1, d0.2⟩, il2⟩ fun v h' tk' hp st' hk' => ?_))
  have ev : vs2[0]? = some v := by simpa using hp
  obtain ⟨v', ev', r1⟩ := rv2.get ex1
  rw [ev] at ev'
  cases ev'
  obtain ⟨o', e', c', d'⟩ := id st'.1
  have J3 := turned_pin (t := tk') (o' := o') J2.swap mI (not_pl nI SI) hk' e' (iter_no st'.1 e')
  show wpAny _ A.in1 (tryCatch (holding [v] (call (.ref q) [v])) _ >>= _) _ _ _
  refine wpAny_bind (wpAny_tryCatch (wpAny_holding (wpAny_mono (ask 0 _ v _ _ _ ex1 r1 (kAt_some (by omega)) (fun p hp => List.mem_cons_of_mem _ (List.mem_cons_of_mem _ hp)) J3) ?_ fun _ _ h => h.elim)))
  rintro x z2 ⟨t2, rfl, J4⟩
  have atI2 := J4.at (b := z.heap.objs.size) List.mem_cons_self
  have J5 := J4.swap
  have atS2 := J5.at (b := S) List.mem_cons_self
  have sb := Heap.SameBut.update z2.heap S (Obj.mapSeq fun _ => #[v, .int (kAt kz 0) t2])
  have ex : ∃ c2, (z2.heap.update S (Obj.mapSeq fun _ => #[v, .int (kAt kz 0) t2])).get? S = some (seqObj "list" #[v, .int (kAt kz 0) t2] c2) := ⟨_, get?_update_seq atS2 fun _ => #[v, .int (kAt kz 0) t2]⟩
  obtain ⟨c2, at3⟩ := ex
  have J6 := J5.turn (t := z2.toks) mS (not_pl nS SI.symm) sb at3 seq_no
  show wpAny _ A.in1 (updateSeq S (fun _ => #[v, .int (kAt kz 0) t2]) >>= _) _ _ _
  refine wpAny_bind (wpAny_updateSeq atS2 rfl ?_)
  rw [nm]
  refine wpAny_pure ⟨plainId_quiet PySem.F.plain_max_loop _, go _ 0 0 _ _ v t2 c2 o' rfl ne J6 ⟨o', (sb.2 _ SI.symm).trans atI2, c', d'⟩ ex1 r1 (Nat.le_refl _) ?_⟩
  intro k hk
  have ek : k = 0 := by omega
  rw [ek]
  exact ⟨Int.le_refl _, fun h => absurd h (Nat.lt_irrefl _)⟩
end
end PD

/-! Phrasedesk: a lambda of one parameter as a key -/
namespace PD
open PySem PySem.Spec PyProof.Rows L2 LamX NdefX
/-- the words of a lambda of one parameter x that captures fr; js: where these stand among the names of the def that makes it -/
structure LamK (X : Cx) (N fr : List Str) (x : Str) (js : List Nat) (params : Arguments) (body : Expr) (scope : Scope) : Prop where
  S : NScope N [x] fr scope
  free : ∀ y ∈ scope.names, y.2 = .free → X.env.scope.names.lookup y.1 = some .cell ∨ X.env.scope.names.lookup y.1 = some .free
  cap : ∀ y ∈ fr, (y, NameKind.free) ∈ scope.names
  js : js.map (fun j => X.N[j]?) = fr.map some
  dflt : defaultsOf params X.env = ([], [])
  bind : ∀ (q : Str) (cl : List (Str × Addr)) (pm cv ctv u : Value), bindArgs (PySem.W.kla_fn "<lambda>" q params body scope cl pm cv ctv) ⟨[u], []⟩ = pure [(x, u)]
abbrev lamN (X : Cx) (params : Arguments) (scope : Scope) (c' : Addr) : NF := ⟨"<lambda>", X.env.qual ++ "<lambda>", params, [], scope, cloFrom X.env.cells scope.names [], c'⟩
abbrev lamO (X : Cx) (params : Arguments) (body : Expr) (scope : Scope) (pm : Value) (c' : Addr) (ctv : Value) : Obj :=
  PySem.W.kla_obj "<lambda>" (X.env.qual ++ "<lambda>") params body scope (cloFrom X.env.cells scope.names []) pm c' ctv
abbrev lamX (X : Cx) (N : List Str) (params : Arguments) (scope : Scope) (f c' : Addr) (A : Around) (outer : List Env) (z : Shared) (G : Hp) : Cx :=
  ncx CX0 X.prog X.w X.K X.mg X.base N (lamN X params scope c') f A outer z G E0
section
variable {X : Cx} {pl : List (Addr × Obj)} {σ : L2.St} {G : Hp} {z : Shared} {A : Around} {N fr : List Str} {x : Str} {js : List Nat} {params : Arguments} {body : Expr} {scope : Scope} {f c' : Addr} {pm ctv : Value} {k : Nat} {tb : TE}
/-- it is called -/
theorem lam_call {v : V} {u : Value} {Q : VK} (I : Inv X pl σ G z) (L : LamK X N fr x js params body scope) (hf : z.heap.get? f = some (lamO X params body scope pm c' ctv)) (hc : G c' = some (CodeO c' (X.env.qual ++ "<lambda>"))) (fa : A.frames = some X.stack) (hr : Room (k + 1) A)
    (hb : ∀ (A : Around) (outer : List Env) (z : Shared) (G : Hp), Room k (A.deeper (envF (lamN X params scope c') f z.heap.objs.size)) → PE (lamX X N params scope f c' A outer z G) body tb)
    (r : RelV v u) (h : tb (startF N [v] (js.map (slotAt σ))) G Q) : wpAny (model X.prog X.w) A (call (.ref f) [u]) (EP X pl σ Q) (fun _ _ => False) z := by
  have e0 : Env0 X.prog X.w X.K X.mg X.base A X.stack z G := ⟨fa, I.env0.mod, I.env0.bs, I.env0.bsz, I.env0.funs, I.env0.frf, I.env0.hok, I.env0.bare⟩
  have cells := cells_of I (Caps.made I.ok L.free L.cap L.js)
  have run : codeAny (model X.prog X.w) A (.call (.ref f) ⟨[u], []⟩) (CR CX0 X.stack X.prog X.w G z Q E0) z := by
    refine PySem.W.kla_callFunE hr.depth hf rfl L.S.co L.S.gen rfl (codeO_at I.hok hc) ?_
    rw [L.bind]
    refine wpAny_pure (wpAny_newFunctionEnv L.S.nocell (fun y hy => ?_) (fun h1 ns sb => ⟨I.nolimit.fresh _ sb, ?_⟩) L.S.kind)
    · have ey : y = (x, u) := List.mem_singleton.mp hy
      rw [ey]
      exact L.S.par x List.mem_cons_self
    · show codeAny _ _ (.expr body (envF (lamN X params scope c') f z.heap.objs.size)) _ _
      have kp : ∀ b o, z.heap.get? b = some o → h1.get? b = some o := by
        intro b o e
        exact sb.extBut b o (Nat.ne_of_lt (Heap.lt_size e)) (Heap.get?_push_of_some _ e)
      have J : Inv (lamX X N params scope f c' A X.stack z G) [] (startF N [v] (js.map (slotAt σ))) G { z with heap := h1, toks := z.toks + ([(x, u)] : List (Str × Value)).length } :=
        inv_startN (ps := [x]) (us := [u]) L.S hr.hd e0 rfl (.cons r .nil) cells ns kp
      refine PySem.W.kla_codeExpr (wpAny_mono ((hb A X.stack z G (hr.deeper _)).run [] _ _ G Q J h) ?_ fun e z' hq => hq)
      rintro y z' ⟨w, G', J', rw', q⟩
      exact ⟨w, G', J'.os, J'.bare, J'.base, J'.hok, rw', q⟩
  refine wpAny_call (codeAny_mono run ?_)
  intro r z' hq
  cases r with
  | error e => exact (show False from hq).elim
  | ok fl =>
    cases fl with
    | ret y => exact I.after hq
    | next => exact (show False from hq).elim
    | brk => exact (show False from hq).elim
    | cont => exact (show False from hq).elim
theorem lam_pin {T : List (Addr × Str)} (I : Inv X pl σ G z) (hf : z.heap.get? f = some (lamO X params body scope pm c' ctv)) (n : G f = none) (nf : f ∉ frs X.stack) : Inv X ((f, lamO X params body scope pm c' ctv) :: pl) σ G z := by
  have nl : f ≠ X.env.locals := by
    intro e
    obtain ⟨m, ⟨o, es, ep, ho, hd, _⟩, _⟩ := I.loc
    rw [← e, hf] at ho
    cases ho
    cases hd
  have nfs : f ∉ X.fs := by
    intro h
    refine nf ?_
    rcases I.ok.stk with e | ⟨e, _⟩
    · rw [e]
      exact h
    · rw [e]
      unfold frs
      rw [List.filterMap_cons]
      cases X.env.frame with
      | none => exact h
      | some b => exact List.mem_cons_of_mem _ h
  refine I.pins_of ?_
  intro p hp
  rcases List.mem_cons.mp hp with e | hp
  · rw [e]
    exact ⟨hf, n, nl, nfs, fun v h => by cases h⟩
  · exact I.pin p (List.mem_append_right _ hp)
theorem lam_asks {xs : List V} {kz : List Int} {W : Hp → Prop} (ok : X.Ok) (L : LamK X N fr x js params body scope) (fa : A.frames = some X.stack) (hr : Room (k + 1) A)
    (hb : ∀ (A : Around) (outer : List Env) (z : Shared) (G : Hp), Room k (A.deeper (envF (lamN X params scope c') f z.heap.objs.size)) → PE (lamX X N params scope f c' A outer z G) body tb)
    (hW : ∀ G, W G → G c' = some (CodeO c' (X.env.qual ++ "<lambda>"))) (h : ∀ (i : Nat) (y : V) (n : Int) (G : Hp), xs[i]? = some y → kz[i]? = some n → W G → tb (startF N [y] (js.map (slotAt σ))) G fun v G' => v = .int n ∧ W G') (hk : ∀ p ∈ [(f, lamO X params body scope pm c' ctv)], p ∈ pl) :
    AsksV X σ W A (.ref f) xs kz pl := by
  intro i y v n pl' z ey rv en hp J
  obtain ⟨G, I, w⟩ := id J
  have hf : z.heap.get? f = some (lamO X params body scope pm c' ctv) := J.at (hp _ (hk _ List.mem_cons_self))
  refine wpAny_mono (lam_call I L hf (hW G w) fa hr hb rv (h i y n G ey en w)) ?_ fun _ _ q => q
  rintro r z' ⟨u, G', I', ru, rfl, w'⟩
  obtain ⟨t, e⟩ := ru
  exact ⟨t, e, G', I', w'⟩
/-! ### the rules -/
/-- xs sorted by the keys kz, the greatest first (equal ones in their order) -/
def SortBy (b : Bool) (kz : List Int) (xs ys : List V) : Prop := ∃ qs : List (Int × V), qs.Perm (kz.zip xs) ∧ ys = qs.map Prod.snd ∧ qs.Pairwise (fun p q => if b then q.1 ≤ p.1 else p.1 ≤ q.1) ∧ ∀ c, qs.filter (fun p => p.1 == c) = (kz.zip xs).filter (fun p => p.1 == c)
theorem sortBy_of {b : Bool} {kz : List Int} {xs : List V} {vs out : List Value} (rv : Vals xs vs) (hx : ∀ y ∈ xs, ∃ t, y = V.ref t) (h : KskOutSt b kz vs out) : SortBy b kz xs (out.map backV) ∧ Vals (out.map backV) out ∧ ((out.map backV).length ≤ xs.length) := by
  obtain ⟨e1, e2⟩ := refs_back rv hx
  obtain ⟨ps, pm, rfl, pw, ft⟩ := h
  have ez : (kz.zip vs).map (fun p : Int × Value => (p.1, backV p.2)) = kz.zip xs := by
    rw [e1, List.zip_map_right]
    rfl
  have mem : ∀ u ∈ ps.map Prod.snd, u ∈ vs := by
    intro u hu
    obtain ⟨p, hp, rfl⟩ := List.mem_map.mp hu
    exact (List.of_mem_zip (pm.mem_iff.mp hp)).2
  refine ⟨⟨ps.map fun p => (p.1, backV p.2), ?_, ?_, ?_, ?_⟩, vals_back fun u hu => e2 u (mem u hu), ?_⟩
  · rw [← ez]
    exact pm.map _
  · rw [List.map_map, List.map_map]
    rfl
  · rw [List.pairwise_map]
    exact pw
  · intro c
    rw [← ez, List.filter_map, List.filter_map]
    exact congrArg _ (ft c)
  · rw [List.length_map, List.length_map, pm.length_eq, List.length_zip, e1, List.length_map]
    exact Nat.min_le_right _ _
def kSortK (T : List (Addr × Str)) (K : PySem.W.Frag) (q : Str) (N : List Str) (js : List Nat) (b : Bool) (tb : TE) (σ : L2.St) (Q : VK) : VK := fun y G1 => ∃ (a : Addr) (xs : List V), y = .ref a ∧ SqL K G1 a xs ∧ (∀ y ∈ xs, ∃ t, y = V.ref t) ∧ Tabs T G1 ∧
  ∀ (G2 : Hp) (c' : Addr), ExtN G1 G2 → Tabs T G2 → G2 c' = some (CodeO c' q) → ∃ (kz : List Int) (W : Hp → Prop), kz.length = xs.length ∧ W G2 ∧ (∀ G, W G → G c' = some (CodeO c' q)) ∧
    (∀ (i : Nat) (y : V) (n : Int) (G : Hp), xs[i]? = some y → kz[i]? = some n → W G → tb (startF N [y] (js.map (slotAt σ))) G fun v G' => v = .int n ∧ W G') ∧
    ∀ (G3 : Hp) (D : Addr) (ys : List V), W G3 → G3 D = none → SortBy b kz xs ys → Q (.ref D) (upd G3 D (.lst ys))
def tSortK (T : List (Addr × Str)) (K : PySem.W.Frag) (q : Str) (N : List Str) (js : List Nat) (b : Bool) (ta tb : TE) : TE := fun σ G Q => ta σ G (kSortK T K q N js b tb σ Q)
def kMaxK (T : List (Addr × Str)) (K : PySem.W.Frag) (q : Str) (N : List Str) (js : List Nat) (tb : TE) (σ : L2.St) (Q : VK) : VK := fun y G1 => ∃ (a : Addr) (xs : List V), y = .ref a ∧ SqL K G1 a xs ∧ 0 < xs.length ∧ Tabs T G1 ∧
  ∀ (G2 : Hp) (c' : Addr), ExtN G1 G2 → Tabs T G2 → G2 c' = some (CodeO c' q) → ∃ (kz : List Int) (W : Hp → Prop), kz.length = xs.length ∧ W G2 ∧ (∀ G, W G → G c' = some (CodeO c' q) ∧ SqL K G a xs) ∧
    (∀ (i : Nat) (y : V) (n : Int) (G : Hp), xs[i]? = some y → kz[i]? = some n → W G → tb (startF N [y] (js.map (slotAt σ))) G fun v G' => v = .int n ∧ W G') ∧
    ∀ (G3 : Hp) (i : Nat) (y : V), W G3 → xs[i]? = some y → Best kz xs.length i → Q y G3
def tMaxK (T : List (Addr × Str)) (K : PySem.W.Frag) (q : Str) (N : List Str) (js : List Nat) (ta tb : TE) : TE := fun σ G Q => ta σ G (kMaxK T K q N js tb σ Q)
variable {T : List (Addr × Str)} {c P : Addr} {p0 p1 p2 p3 lpos kp1 kp2 : Pos} {e : Expr} {ta : TE} {j0 : Nat}
theorem ext_sql {K : PySem.W.Frag} {G G' : Hp} {a : Addr} {xs : List V} (e : ExtN G G') (h : SqL K G a xs) : SqL K G' a xs := by
  rcases h with (h | ⟨o, h⟩) | h
  · exact .inl (.inl (e _ _ h fun _ t => nomatch t))
  · exact .inl (.inr ⟨o, e _ _ h fun _ t => nomatch t⟩)
  · exact .inr h
/-- sorted(e, key=lambda x: body, reverse=True) -/
theorem pe_sortK {t1 : Nat} (ha : PE X e ta) (gs : Gl X "sorted") (ms : X.mg "sorted" = none) (TB : TabB X.base X.mg c P) (hcode : X.env.code = .ref c) (hm : (P, X.env.qual ++ "<lambda>") ∈ T) (hu : ∀ p ∈ T, p.1 = P → p.2 = X.env.qual ++ "<lambda>")
    (L : LamK X N fr x js params body scope) (hr : Room (k + 3) X.A)
    (hb : ∀ (f c' : Addr) (A : Around) (outer : List Env) (z : Shared) (G : Hp), Room k (A.deeper (envF (lamN X params scope c') f z.heap.objs.size)) → PE (lamX X N params scope f c' A outer z G) body tb) (st : starEach [e] X.env = [(false, eval e X.env)] := by rfl) :
    PE X (.Call (.Name "sorted" p0) [e] [⟨some "key", .Lambda params body scope lpos, kp1⟩, ⟨some "reverse", .Constant (.bool true) t1 p2, kp2⟩] p3) (tSortK T X.K (X.env.qual ++ "<lambda>") N js true ta tb) := by
  constructor
  intro pins z σ G Q I h
  refine wpAny_Call_Name_kw (ld_blt I gs ms PyProof.Rows.boot_sorted ?_)
  refine PyProof.Rows.callWith_kw (thn ((pa_cons ha pa_nil (hs := st)).run p3 pins z σ G (fun vs G1 => match vs with | [y] => kSortK T X.K (X.env.qual ++ "<lambda>") N js true tb σ Q y G1 | _ => False) I h) fun us z1 w1 => ?_) (by rw [st]; rfl) (by rw [st]; rfl)
  obtain ⟨vs, G1, I1, r1, q1⟩ := w1
  match vs, r1, q1 with
  | [y], r1, q1 =>
    obtain ⟨u, rfl, ru⟩ := vals1 r1
    obtain ⟨a, xs, rfl, sq, refs, tabs, q1⟩ := q1
    cases (show u = Value.ref a from ru)
    refine wpAny_evalAll_cons (wpAny_bind (lam_make2 I1 TB hcode hm hu tabs L.dflt (fun y hy ey => (L.free y hy ey).elim (fun t => I1.ok.has _ (.inl t)) fun t => I1.ok.has _ (.inr t)) fun f c' pm ctv G2 z2 I2 eN T2 hf hfn hfr hco => wpAny_bind (wpAny_standAt (wpAny_pure ?_))))
    have I3 := lam_pin (T := T) I2 hf hfn hfr
    refine thn ((pk_cons (nm := some "reverse") (kpos := kp2) (pe_bl (j := t1) (pos := p2)) pk_nil).run p3 _ z2 σ G2 (fun vs G3 => vs = [V.bl true] ∧ G3 = G2) I3 ⟨rfl, rfl⟩) ?_
    rintro ws z3 ⟨vs3, G3, I4, r3, rfl, rfl⟩
    obtain ⟨w1, rfl, rw1⟩ := vals1 r3
    cases (show w1 = Value.bool true from rw1)
    obtain ⟨kz, W, kl, w0, wc, wb, fin⟩ := q1 G3 c' eN T2 hco
    obtain ⟨its, rv, il, hz⟩ := I4.list (ext_sql eN sq)
    have room1 : Room (k + 1) X.A.in1.in1 := hr.in1.in1
    have asks := lam_asks (xs := xs) (kz := kz) (W := W) (σ := σ) (pl := (f, lamO X params body scope pm c' ctv) :: pins) (f := f) (c' := c') (pm := pm) (ctv := ctv) I.ok L (show X.A.in1.in1.frames = some X.stack from I.ok.frames) room1 (hb f c') wc wb fun p hp => by
      rw [List.mem_singleton.mp hp]
      exact List.mem_cons_self
    refine srt_sorted (b := true) (kz := kz) (vs := its) (W := W) (σ := σ) ⟨G3, I4, w0⟩ il.isList (by rw [kl, rv.length]) (by rw [← rv.length]; exact hz) (ksk_s2 _ _ _) (fun _ => ksk_l2 _ _ _) (fun _ => ksk_t2 _ _ _) (asks.of rv) ?_
    intro D z' out cc J' mD npl ko
    obtain ⟨G5, I5, w5⟩ := J'
    obtain ⟨s1, s2, s3⟩ := sortBy_of rv refs ko
    have nD : G5 D = none := (I5.pin _ (List.mem_append_right _ List.mem_cons_self)).2.1
    have atD : z'.heap.get? D = some (seqObj "list" out cc) := (I5.pin _ (List.mem_append_right _ List.mem_cons_self)).1
    have I6 := adopt (u := .lst (out.toList.map backV)) I5 mD npl ⟨Nat.le_trans s3 hz, out.toList, cc, s2, atD⟩
    exact ⟨.ref D, _, pin_sub I6 fun p hp => List.mem_cons_of_mem _ hp, rfl, fin G5 D _ w5 nD s1⟩
/-- max(e, key=lambda x: body) -/
theorem pe_maxK (ha : PE X e ta) (calm : X.calm = true) (gs : Gl X "max") (ms : X.mg "max" = none) (TB : TabB X.base X.mg c P) (hcode : X.env.code = .ref c) (hm : (P, X.env.qual ++ "<lambda>") ∈ T) (hu : ∀ p ∈ T, p.1 = P → p.2 = X.env.qual ++ "<lambda>")
    (L : LamK X N fr x js params body scope) (hr : Room (k + 2) X.A)
    (hb : ∀ (f c' : Addr) (A : Around) (outer : List Env) (z : Shared) (G : Hp), Room k (A.deeper (envF (lamN X params scope c') f z.heap.objs.size)) → PE (lamX X N params scope f c' A outer z G) body tb) (st : starEach [e] X.env = [(false, eval e X.env)] := by rfl) :
    PE X (.Call (.Name "max" p0) [e] [⟨some "key", .Lambda params body scope lpos, kp1⟩] p3) (tMaxK T X.K (X.env.qual ++ "<lambda>") N js ta tb) := by
  constructor
  intro pins z σ G Q I h
  refine wpAny_Call_Name_kw (ld_blt I gs ms PyProof.Rows.boot_max ?_)
  refine PyProof.Rows.callWith_kw (thn ((pa_cons ha pa_nil (hs := st)).run p3 pins z σ G (fun vs G1 => match vs with | [y] => kMaxK T X.K (X.env.qual ++ "<lambda>") N js tb σ Q y G1 | _ => False) I h) fun us z1 w1 => ?_) (by rw [st]; rfl) (by rw [st]; rfl)
  obtain ⟨vs, G1, I1, r1, q1⟩ := w1
  match vs, r1, q1 with
  | [y], r1, q1 =>
    obtain ⟨u, rfl, ru⟩ := vals1 r1
    obtain ⟨a, xs, rfl, sq, ne, tabs, q1⟩ := q1
    cases (show u = Value.ref a from ru)
    refine wpAny_evalAll_cons (wpAny_bind (lam_make2 I1 TB hcode hm hu tabs L.dflt (fun y hy ey => (L.free y hy ey).elim (fun t => I1.ok.has _ (.inl t)) fun t => I1.ok.has _ (.inr t)) fun f c' pm ctv G2 z2 I2 eN T2 hf hfn hfr hco => wpAny_bind (wpAny_standAt (wpAny_pure ?_))))
    have I3 := lam_pin (T := T) I2 hf hfn hfr
    refine wpAny_evalAll_nil ?_
    obtain ⟨kz, W, kl, w0, wc, wb, fin⟩ := q1 G2 c' eN T2 hco
    have room1 : Room (k + 1) X.A.in1 := hr.in1
    have asks := lam_asks (xs := xs) (kz := kz) (W := W) (σ := σ) (pl := (f, lamO X params body scope pm c' ctv) :: pins) (f := f) (c' := c') (pm := pm) (ctv := ctv) I.ok L (show X.A.in1.frames = some X.stack from I.ok.frames) room1 (hb f c') (fun G w => (wc G w).1) wb fun p hp => by
      rw [List.mem_singleton.mp hp]
      exact List.mem_cons_self
    refine max_key (l := a) (xs := xs) (kz := kz) (W := W) (σ := σ) (I.ok.hd calm) ⟨G2, I3, w0⟩ (fun z' J' => ?_) kl ne asks ?_
    · obtain ⟨G', I', w'⟩ := J'
      obtain ⟨its, rv, il, _⟩ := I'.list (wc G' w').2
      exact ⟨its, rv, il.isList⟩
    · intro i y v z' ey ry best J'
      obtain ⟨G5, I5, w5⟩ := J'
      exact ⟨y, G5, pin_sub I5 fun p hp => List.mem_cons_of_mem _ hp, ry, fin G5 i y w5 ey best⟩
end
end PD

/-! Phrasedesk: the fewest rounds, as mathematics -/
namespace PD
/-! ### rows that put all anew -/
structure Good (fr : List Int) (ps : List Pr) (h : Nat) (rows : List (List Pr)) : Prop where
  size : ∀ row ∈ rows, 1 ≤ row.length ∧ row.length ≤ h
  nd : rows.flatten.Nodup
  mem : ∀ q, q ∈ rows.flatten ↔ q ∈ ps
  ord : ∀ (i j : Nat) (q : Pr) (row row' : List Pr), rows[i]? = some row → q ∈ row → rows[j]? = some row' → upQ fr q ∈ row' → j < i
def numd (n : Nat) : List (List Pr) → Wh
  | [] => []
  | row :: rows => (row.map fun q => (q, n)) ++ numd (n + 1) rows
theorem numd_keys : ∀ (rows : List (List Pr)) (n : Nat), (numd n rows).map (·.1) = rows.flatten
  | [], n => rfl
  | row :: rows, n => by
    unfold numd
    rw [List.map_append, List.map_map, numd_keys rows (n + 1), List.flatten_cons]
    congr 1
    induction row with
    | nil => rfl
    | cons q r ih => rw [List.map_cons, ih]; rfl
theorem wRow_of {ps : List Pr} {n : Nat} : ∀ {row : List Pr} {acc : Wh}, (∀ q ∈ row, q ∈ ps) → row.Nodup → (∀ q ∈ row, q ∉ acc.map (·.1)) → wRow ps n row acc = some (acc ++ row.map fun q => (q, n))
  | [], acc, _, _, _ => by simp [wRow]
  | q :: r, acc, h1, h2, h3 => by
    obtain ⟨n1, n2⟩ := List.nodup_cons.mp h2
    have st : wStep ps n acc q = some (acc ++ [(q, n)]) := by
      unfold wStep
      rw [if_pos ⟨h1 q List.mem_cons_self, lookup_none.mpr (h3 q List.mem_cons_self)⟩]
    have ih := wRow_of (row := r) (acc := acc ++ [(q, n)]) (n := n) (fun p hp => h1 p (List.mem_cons_of_mem _ hp)) n2 fun p hp => by
      rw [List.map_append, List.mem_append]
      rintro (z | z)
      · exact h3 p (List.mem_cons_of_mem _ hp) z
      · have e : p = q := by simpa using z
        exact n1 (e ▸ hp)
    show (wStep ps n acc q).bind (wRow ps n r) = _
    rw [st]
    show wRow ps n r (acc ++ [(q, n)]) = _
    rw [ih]
    simp
theorem wAll_of {ps : List Pr} {h : Int} : ∀ {rows : List (List Pr)} {n : Nat} {acc : Wh}, (∀ row ∈ rows, sizeOk h row = true) → (∀ q ∈ rows.flatten, q ∈ ps) → rows.flatten.Nodup → (∀ q ∈ rows.flatten, q ∉ acc.map (·.1)) → wAll ps h n rows acc = some (acc ++ numd n rows)
  | [], n, acc, _, _, _, _ => by simp [wAll, numd]
  | row :: rows, n, acc, h0, h1, h2, h3 => by
    rw [List.flatten_cons] at h1 h2 h3
    obtain ⟨d1, d2, d3⟩ := List.nodup_append.mp h2
    have r := wRow_of (ps := ps) (n := n) (row := row) (acc := acc) (fun q hq => h1 q (List.mem_append_left _ hq)) d1 fun q hq => h3 q (List.mem_append_left _ hq)
    have ih := wAll_of (ps := ps) (h := h) (rows := rows) (n := n + 1) (acc := acc ++ row.map fun q => (q, n)) (fun x hx => h0 x (List.mem_cons_of_mem _ hx)) (fun q hq => h1 q (List.mem_append_right _ hq)) d2 fun q hq => by
      rw [List.map_append, List.mem_append]
      rintro (z | z)
      · exact h3 q (List.mem_append_right _ hq) z
      · rw [List.map_map] at z
        obtain ⟨p, hp, e⟩ := List.mem_map.mp z
        have e2 : p = q := e
        exact d3 p hp q hq e2
    unfold wAll
    rw [if_pos (h0 row List.mem_cons_self), r]
    show wAll ps h (n + 1) rows (acc ++ row.map fun q => (q, n)) = _
    rw [ih]
    simp [numd]
theorem mem_look {α : Type} {q : Pr} {x : α} : ∀ {l : List (Pr × α)}, l.lookup q = some x → (q, x) ∈ l
  | [], e => by cases e
  | (p, y) :: l, e => by
    by_cases h : q = p
    · subst h
      have e2 : some y = some x := by simpa [List.lookup] using e
      rw [Option.some.inj e2]
      exact List.mem_cons_self
    · have hb : (q == p) = false := beq_eq_false_iff_ne.mpr h
      have e2 : l.lookup q = some x := by simpa [List.lookup, hb] using e
      exact List.mem_cons_of_mem _ (mem_look e2)
theorem numd_at : ∀ {rows : List (List Pr)} {n i : Nat} {q : Pr}, (numd n rows).lookup q = some i → ∃ j row, i = n + j ∧ rows[j]? = some row ∧ q ∈ row
  | [], n, i, q, e => by simp [numd] at e
  | row :: rows, n, i, q, e => by
    unfold numd at e
    rw [List.lookup_append] at e
    cases z : (row.map fun p => (p, n)).lookup q with
    | some m =>
      rw [z] at e
      have e1 : m = i := by simpa using e
      have m1 := List.mem_map.mp (mem_look z)
      obtain ⟨p, hp, e2⟩ := m1
      have e3 : p = q := congrArg Prod.fst e2
      have e4 : n = m := congrArg Prod.snd e2
      exact ⟨0, row, by omega, rfl, e3 ▸ hp⟩
    | none =>
      rw [z] at e
      obtain ⟨j, r, a, b, c⟩ := numd_at (rows := rows) (n := n + 1) (by simpa using e)
      exact ⟨j + 1, r, by omega, b, c⟩
theorem Good.areR {fr : List Int} {ps : List Pr} {h : Nat} {rows : List (List Pr)} (g : Good fr ps h rows) : areR fr ps (h : Int) rows = true := by
  have so : ∀ row ∈ rows, sizeOk (h : Int) row = true := by
    intro row hr
    obtain ⟨a, b⟩ := g.size row hr
    unfold sizeOk
    rw [decide_eq_true (by omega), decide_eq_true (by omega)]
    rfl
  have w := wAll_of (ps := ps) (h := (h : Int)) (rows := rows) (n := 0) (acc := []) so (fun q hq => (g.mem q).mp hq) g.nd fun q _ => by simp
  unfold PD.areR
  rw [w, List.nil_append]
  show ((ps.all fun q => ((numd 0 rows).lookup q).isSome) && ps.all (behind fr (numd 0 rows))) = true
  rw [Bool.and_eq_true, List.all_eq_true, List.all_eq_true]
  constructor
  · intro q hq
    rw [isSome_mem, numd_keys]
    exact (g.mem q).mpr hq
  · intro q hq
    unfold behind
    cases e1 : (numd 0 rows).lookup (upQ fr q) with
    | none => rfl
    | some a =>
      cases e2 : (numd 0 rows).lookup q with
      | none => rfl
      | some b =>
        obtain ⟨j, r1, rfl, f1, m1⟩ := numd_at e1
        obtain ⟨i, r2, rfl, f2, m2⟩ := numd_at e2
        have := g.ord i j q r2 r1 f2 m2 f1 m1
        exact decide_eq_true (by omega)
/-! ### no fewer do -/
theorem mem_row {rows : List (List Pr)} {q : Pr} (h : q ∈ rows.flatten) : ∃ (i : Nat) (row : List Pr), rows[i]? = some row ∧ q ∈ row := by
  obtain ⟨row, hr, hq⟩ := List.mem_flatten.mp h
  obtain ⟨i, hi, e⟩ := List.mem_iff_getElem.mp hr
  exact ⟨i, row, by rw [List.getElem?_eq_getElem hi, e], hq⟩
theorem Good.deep {fr : List Int} {ps : List Pr} {h : Nat} {rows : List (List Pr)} (fo : FrOk fr) (oo : OldOk fr ps) (g : Good fr ps h rows) : ∀ (i : Nat) (q : Pr) (row : List Pr), rows[i]? = some row → q ∈ row → dep fr ps q ≤ i := by
  intro i
  induction i using Nat.strongRecOn with
  | _ i ih =>
    intro q row e hq
    have qp : q ∈ ps := (g.mem q).mp (List.mem_flatten.mpr ⟨row, List.mem_of_getElem? e, hq⟩)
    obtain ⟨_, _, q1, q2⟩ := oo.each q qp
    rw [dep_step fo oo q1 q2]
    by_cases hu : upQ fr q ∈ ps
    · rw [if_pos hu]
      obtain ⟨j, row', f, m⟩ := mem_row ((g.mem _).mpr hu)
      have lt := g.ord i j q row row' e hq f m
      have := ih j lt _ _ f m
      omega
    · rw [if_neg hu]
      exact Nat.zero_le _
theorem flat_le {h : Nat} : ∀ {rows : List (List Pr)}, (∀ row ∈ rows, row.length ≤ h) → rows.flatten.length ≤ h * rows.length
  | [], _ => by simp
  | row :: rows, s => by
    have a := s row List.mem_cons_self
    have b := flat_le (rows := rows) fun r hr => s r (List.mem_cons_of_mem _ hr)
    rw [List.flatten_cons, List.length_append, List.length_cons, Nat.mul_succ]
    omega
abbrev cnt (fr : List Int) (ps l : List Pr) (d : Nat) : Nat := (l.filter fun q => decide (d ≤ dep fr ps q)).length
theorem Good.cnt_le {fr : List Int} {ps : List Pr} {h : Nat} {rows : List (List Pr)} (fo : FrOk fr) (oo : OldOk fr ps) (g : Good fr ps h rows) (d : Nat) : cnt fr ps ps d ≤ h * (rows.length - d) := by
  have sub : ∀ q ∈ ps.filter (fun q => decide (d ≤ dep fr ps q)), q ∈ (rows.drop d).flatten := by
    intro q hq
    obtain ⟨h1, h2⟩ := List.mem_filter.mp hq
    have h2 : d ≤ dep fr ps q := of_decide_eq_true h2
    obtain ⟨i, row, e, m⟩ := mem_row ((g.mem q).mpr h1)
    have := g.deep fo oo i q row e m
    refine List.mem_flatten.mpr ⟨row, ?_, m⟩
    refine List.mem_of_getElem? (i := i - d) ?_
    rw [List.getElem?_drop, show d + (i - d) = i by omega]
    exact e
  have l1 := sub_len (oo.nd.filter _) sub
  have l2 := flat_le (h := h) (rows := rows.drop d) fun row hr => (g.size row (List.mem_of_mem_drop hr)).2
  rw [List.length_drop] at l2
  exact Nat.le_trans l1 l2
theorem deepC_cnt {fr : List Int} {ps : List Pr} (d : Nat) : deepC fr ps (d : Int) = cnt fr ps ps d := by
  unfold deepC cnt
  congr 2
  funext q
  exact decide_eq_decide.mpr ⟨fun h => by omega, fun h => by omega⟩
theorem need_nat {fr : List Int} {ps : List Pr} {h : Nat} (d : Nat) : need fr ps (h : Int) (d : Int) = if cnt fr ps ps d = 0 then 0 else ((d + (cnt fr ps ps d + h - 1) / h : Nat) : Int) := by
  unfold need
  rw [deepC_cnt]
  by_cases c : cnt fr ps ps d = 0
  · rw [if_pos c, if_pos c]
  · rw [if_neg c, if_neg c]
    have e : ((cnt fr ps ps d : Int) + (h : Int) - 1) = ((cnt fr ps ps d + h - 1 : Nat) : Int) := by omega
    rw [e, Int.fdiv_eq_ediv_of_nonneg _ (by omega)]
    omega
/-- by a number of rounds that fits, for every depth -/
def Fit (fr : List Int) (ps : List Pr) (h : Nat) (l : List Pr) (M : Nat) : Prop := ∀ d, cnt fr ps l d ≤ h * (M - d)
theorem ceil_le {c h m : Nat} (hh : 1 ≤ h) (hc : 1 ≤ c) : (c + h - 1) / h ≤ m ↔ c ≤ h * m := by
  have e : c + h - 1 = (c - 1) + h * 1 := by omega
  rw [e, Nat.add_mul_div_left _ _ (by omega)]
  constructor
  · intro z
    have l := Nat.lt_mul_div_succ (c - 1) (show 0 < h by omega)
    have : h * ((c - 1) / h + 1) ≤ h * m := Nat.mul_le_mul_left _ z
    omega
  · intro z
    have : (c - 1) / h < m := by
      rw [Nat.div_lt_iff_lt_mul (by omega), Nat.mul_comm]
      omega
    omega
theorem dep_lt {fr : List Int} {ps : List Pr} (fo : FrOk fr) (oo : OldOk fr ps) : ∀ (n : Nat) (q : Pr), q.2.toNat ≤ n → 1 ≤ q.2 → q.2 ≤ (fr.length : Int) → dep fr ps q < q.2.toNat := by
  intro n
  induction n with
  | zero =>
    intro q h1 h2 h3
    omega
  | succ n ih =>
    intro q h1 h2 h3
    rw [dep_step fo oo h2 h3]
    by_cases hu : upQ fr q ∈ ps
    · rw [if_pos hu]
      obtain ⟨_, _, u1, u2⟩ := oo.each _ hu
      have lt := upQ_lt fo h2 h3
      have := ih _ (by omega) u1 u2
      omega
    · rw [if_neg hu]
      omega
theorem cnt_far {fr : List Int} {ps : List Pr} (fo : FrOk fr) (oo : OldOk fr ps) {d : Nat} (h : fr.length ≤ d) : cnt fr ps ps d = 0 := by
  unfold cnt
  rw [List.length_eq_zero_iff, List.filter_eq_nil_iff]
  intro q hq z
  have z : d ≤ dep fr ps q := of_decide_eq_true z
  obtain ⟨_, _, q1, q2⟩ := oo.each q hq
  have := dep_lt fo oo _ q (Nat.le_refl _) q1 q2
  omega
/-! ### the deepest ones last -/
def lastRow (fr : List Int) (h : Nat) (l : List Pr) : List Pr := (l.filter fun q => decide (q ∉ l.map (upQ fr))).take h
def lessRow (l r : List Pr) : List Pr := l.filter fun q => decide (q ∉ r)
def rowsB (fr : List Int) (h : Nat) : Nat → List Pr → List (List Pr)
  | 0, _ => []
  | n + 1, l => if l = [] then [] else lastRow fr h l :: rowsB fr h n (lessRow l (lastRow fr h l))
/-- what is left: old ones with all above them, the deepest first -/
structure Left (fr : List Int) (ps l : List Pr) : Prop where
  nd : l.Nodup
  sub : ∀ q ∈ l, q ∈ ps
  up : ∀ q ∈ l, upQ fr q ∈ ps → upQ fr q ∈ l
  desc : l.Pairwise fun p q => dep fr ps q ≤ dep fr ps p
section
variable {fr : List Int} {ps l : List Pr} {h : Nat}
theorem lastRow_sub {q : Pr} (m : q ∈ lastRow fr h l) : q ∈ l ∧ q ∉ l.map (upQ fr) := by
  obtain ⟨a, b⟩ := List.mem_filter.mp (List.mem_of_mem_take m)
  exact ⟨a, of_decide_eq_true b⟩
theorem Left.less (L : Left fr ps l) : Left fr ps (lessRow l (lastRow fr h l)) := by
  refine ⟨L.nd.filter _, fun q hq => L.sub q (List.mem_filter.mp hq).1, fun q hq hu => ?_, L.desc.filter _⟩
  have m := (List.mem_filter.mp hq).1
  refine List.mem_filter.mpr ⟨L.up q m hu, decide_eq_true fun z => ?_⟩
  exact (lastRow_sub z).2 (List.mem_map.mpr ⟨q, m, rfl⟩)
theorem Left.child (fo : FrOk fr) (oo : OldOk fr ps) (L : Left fr ps l) {c q : Pr} (hc : c ∈ l) (e : upQ fr c = q) (hq : q ∈ l) : dep fr ps c = dep fr ps q + 1 := by
  obtain ⟨_, _, c1, c2⟩ := oo.each c (L.sub c hc)
  rw [dep_step fo oo c1 c2, if_pos (by rw [e]; exact L.sub q hq), e]
theorem Left.some_row (fo : FrOk fr) (oo : OldOk fr ps) (L : Left fr ps l) (hh : 1 ≤ h) (ne : l ≠ []) : lastRow fr h l ≠ [] := by
  cases l with
  | nil => exact absurd rfl ne
  | cons q r =>
    have leaf : q ∉ (q :: r).map (upQ fr) := by
      intro z
      obtain ⟨c, hc, e⟩ := List.mem_map.mp z
      have d := L.child fo oo hc e List.mem_cons_self
      rcases List.mem_cons.mp hc with w | w
      · rw [w] at d
        omega
      · have := (List.pairwise_cons.mp L.desc).1 c w
        omega
    obtain ⟨k, rfl⟩ : ∃ k, h = k + 1 := ⟨h - 1, by omega⟩
    unfold lastRow
    rw [List.filter_cons_of_pos (p := fun p => decide (p ∉ (q :: r).map (upQ fr))) (decide_eq_true leaf)]
    simp
theorem filter_take {d : Nat} : ∀ {l : List Pr}, (l.Pairwise fun p q => dep fr ps q ≤ dep fr ps p) → l.filter (fun q => decide (d ≤ dep fr ps q)) = l.take (cnt fr ps l d)
  | [], _ => by simp
  | q :: r, pw => by
    obtain ⟨a, b⟩ := List.pairwise_cons.mp pw
    by_cases c : d ≤ dep fr ps q
    · have e : (q :: r).filter (fun q => decide (d ≤ dep fr ps q)) = q :: r.filter (fun q => decide (d ≤ dep fr ps q)) := List.filter_cons_of_pos (p := fun q => decide (d ≤ dep fr ps q)) (decide_eq_true c)
      unfold cnt
      rw [e, List.length_cons, List.take_succ_cons]
      exact congrArg (List.cons q) (filter_take b)
    · have e : (q :: r).filter (fun q => decide (d ≤ dep fr ps q)) = [] := by
        rw [List.filter_eq_nil_iff]
        intro p hp z
        have z : d ≤ dep fr ps p := of_decide_eq_true z
        rcases List.mem_cons.mp hp with w | w
        · rw [w] at z
          exact c z
        · have := a p w
          omega
      unfold cnt
      rw [e]
      simp
theorem Left.fit (fo : FrOk fr) (oo : OldOk fr ps) (L : Left fr ps l) (hh : 1 ≤ h) {M : Nat} (f : Fit fr ps h l (M + 1)) : Fit fr ps h (lessRow l (lastRow fr h l)) M := by
  intro d
  have lv := L.desc.filter fun q => decide (q ∉ l.map (upQ fr))
  have ft := filter_take (fr := fr) (ps := ps) (d := d) lv
  by_cases c : h ≤ cnt fr ps (l.filter fun q => decide (q ∉ l.map (upQ fr))) d
  · -- the row is full, of that depth or more
    have deep : ∀ q ∈ lastRow fr h l, d ≤ dep fr ps q := by
      intro q hq
      have m : q ∈ (l.filter fun q => decide (q ∉ l.map (upQ fr))).take (cnt fr ps (l.filter fun q => decide (q ∉ l.map (upQ fr))) d) := by
        unfold lastRow at hq
        have e : ((l.filter fun q => decide (q ∉ l.map (upQ fr))).take (cnt fr ps (l.filter fun q => decide (q ∉ l.map (upQ fr))) d)).take h = (l.filter fun q => decide (q ∉ l.map (upQ fr))).take h := by
          rw [List.take_take, Nat.min_eq_left c]
        rw [← e] at hq
        exact List.mem_of_mem_take hq
      rw [← ft] at m
      exact of_decide_eq_true (List.mem_filter.mp m).2
    have len : (lastRow fr h l).length = h := by
      unfold lastRow
      rw [List.length_take]
      have : cnt fr ps (l.filter fun q => decide (q ∉ l.map (upQ fr))) d ≤ (l.filter fun q => decide (q ∉ l.map (upQ fr))).length := List.length_filter_le _ _
      omega
    have rnd : (lastRow fr h l).Nodup := (L.nd.filter _).sublist (List.take_sublist _ _)
    have both : ((l.filter fun q => decide (d ≤ dep fr ps q)).filter fun q => decide (q ∉ lastRow fr h l)).length + (lastRow fr h l).length ≤ (l.filter fun q => decide (d ≤ dep fr ps q)).length := by
      rw [← List.length_append]
      refine sub_len ?_ ?_
      · rw [List.nodup_append]
        refine ⟨(L.nd.filter _).filter _, rnd, ?_⟩
        intro a ha b hb e
        exact of_decide_eq_true (List.mem_filter.mp ha).2 (e ▸ hb)
      · intro q hq
        rcases List.mem_append.mp hq with z | z
        · exact (List.mem_filter.mp z).1
        · exact List.mem_filter.mpr ⟨(lastRow_sub z).1, decide_eq_true (deep q z)⟩
    have sw : cnt fr ps (lessRow l (lastRow fr h l)) d = ((l.filter fun q => decide (d ≤ dep fr ps q)).filter fun q => decide (q ∉ lastRow fr h l)).length := by
      unfold cnt lessRow
      rw [List.filter_filter, List.filter_filter]
      congr 2
      funext q
      exact Bool.and_comm _ _
    have fd := f d
    unfold cnt at fd
    rw [sw]
    rw [len] at both
    rcases Nat.lt_or_ge d (M + 1) with z | z
    · have e : M + 1 - d = (M - d) + 1 := by omega
      rw [e, Nat.mul_succ] at fd
      omega
    · have e : M + 1 - d = 0 := by omega
      rw [e, Nat.mul_zero] at fd
      omega
  · -- all of that depth or more that none follows are in the row
    have inrow : ∀ q ∈ l, q ∉ l.map (upQ fr) → d ≤ dep fr ps q → q ∈ lastRow fr h l := by
      intro q h1 h2 h3
      have m : q ∈ (l.filter fun q => decide (q ∉ l.map (upQ fr))).filter fun q => decide (d ≤ dep fr ps q) := List.mem_filter.mpr ⟨List.mem_filter.mpr ⟨h1, decide_eq_true h2⟩, decide_eq_true h3⟩
      rw [ft] at m
      unfold lastRow
      have e : ((l.filter fun q => decide (q ∉ l.map (upQ fr))).take h).take (cnt fr ps (l.filter fun q => decide (q ∉ l.map (upQ fr))) d) = (l.filter fun q => decide (q ∉ l.map (upQ fr))).take (cnt fr ps (l.filter fun q => decide (q ∉ l.map (upQ fr))) d) := by
        rw [List.take_take, Nat.min_eq_left (by omega)]
      rw [← e] at m
      exact List.mem_of_mem_take m
    have sub : ∀ q ∈ (lessRow l (lastRow fr h l)).filter (fun q => decide (d ≤ dep fr ps q)), q ∈ (l.filter fun q => decide (d + 1 ≤ dep fr ps q)).map (upQ fr) := by
      intro q hq
      obtain ⟨m1, m2⟩ := List.mem_filter.mp hq
      obtain ⟨m3, m4⟩ := List.mem_filter.mp m1
      have m2 : d ≤ dep fr ps q := of_decide_eq_true m2
      have m4 : q ∉ lastRow fr h l := of_decide_eq_true m4
      by_cases lf : q ∈ l.map (upQ fr)
      · obtain ⟨x, hx, e⟩ := List.mem_map.mp lf
        have dx := L.child fo oo hx e m3
        exact List.mem_map.mpr ⟨x, List.mem_filter.mpr ⟨hx, decide_eq_true (by omega)⟩, e⟩
      · exact absurd (inrow q m3 lf m2) m4
    have l1 := sub_len ((L.nd.filter _).filter _) sub
    rw [List.length_map] at l1
    have fd := f (d + 1)
    rw [show M + 1 - (d + 1) = M - d by omega] at fd
    exact Nat.le_trans l1 fd
theorem less_lt (fo : FrOk fr) (oo : OldOk fr ps) (L : Left fr ps l) (hh : 1 ≤ h) (ne : l ≠ []) : (lessRow l (lastRow fr h l)).length < l.length := by
  obtain ⟨q, hq⟩ := List.exists_mem_of_ne_nil _ (L.some_row fo oo hh ne)
  have m := (lastRow_sub hq).1
  unfold lessRow
  rcases Nat.lt_or_ge (l.filter fun q => decide (q ∉ lastRow fr h l)).length l.length with z | z
  · exact z
  · have e : (l.filter fun q => decide (q ∉ lastRow fr h l)).length = l.length := Nat.le_antisymm (List.length_filter_le _ _) z
    have a := List.length_filter_eq_length_iff.mp e q m
    exact absurd hq (of_decide_eq_true a)
theorem rowsB_few (fo : FrOk fr) (oo : OldOk fr ps) (hh : 1 ≤ h) : ∀ (n : Nat) (l : List Pr) (M : Nat), l.length ≤ n → Left fr ps l → Fit fr ps h l M → (rowsB fr h n l).length ≤ M := by
  intro n
  induction n with
  | zero =>
    intro l M _ _ _
    exact Nat.zero_le _
  | succ n ih =>
    intro l M hl L f
    unfold rowsB
    by_cases e : l = []
    · rw [if_pos e]
      exact Nat.zero_le _
    · rw [if_neg e, List.length_cons]
      have f0 := f 0
      have all : cnt fr ps l 0 = l.length := by
        unfold cnt
        rw [List.length_filter_eq_length_iff]
        intro q _
        exact decide_eq_true (Nat.zero_le _)
      have pos : 0 < l.length := List.length_pos_iff.mpr e
      cases M with
      | zero =>
        rw [all, Nat.zero_sub, Nat.mul_zero] at f0
        omega
      | succ M =>
        have lt := less_lt fo oo L hh e
        have := ih (lessRow l (lastRow fr h l)) M (by omega) L.less (L.fit fo oo hh f)
        omega
/-- what the rows from the last back are -/
structure Back (fr : List Int) (h : Nat) (l : List Pr) (rs : List (List Pr)) : Prop where
  size : ∀ row ∈ rs, 1 ≤ row.length ∧ row.length ≤ h
  nd : rs.flatten.Nodup
  mem : ∀ q, q ∈ rs.flatten ↔ q ∈ l
  ord : ∀ (i j : Nat) (q : Pr) (row row' : List Pr), rs[i]? = some row → q ∈ row → rs[j]? = some row' → upQ fr q ∈ row' → i < j
theorem rowsB_back (fo : FrOk fr) (oo : OldOk fr ps) (hh : 1 ≤ h) : ∀ (n : Nat) (l : List Pr), l.length ≤ n → Left fr ps l → Back fr h l (rowsB fr h n l) := by
  have none : Back fr h [] [] := ⟨fun row hr => by simp at hr, by simp, fun q => by simp, fun i j q row row' e => by simp at e⟩
  intro n
  induction n with
  | zero =>
    intro l hl L
    have e : l = [] := List.length_eq_zero_iff.mp (by omega)
    subst e
    exact none
  | succ n ih =>
    intro l hl L
    unfold rowsB
    by_cases e : l = []
    · subst e
      rw [if_pos rfl]
      exact none
    · rw [if_neg e]
      have lt := less_lt fo oo L hh e
      have B := ih (lessRow l (lastRow fr h l)) (by omega) L.less
      have rnd : (lastRow fr h l).Nodup := (L.nd.filter _).sublist (List.take_sublist _ _)
      refine ⟨?_, ?_, ?_, ?_⟩
      · intro row hr
        rcases List.mem_cons.mp hr with z | z
        · rw [z]
          refine ⟨List.length_pos_iff.mpr (L.some_row fo oo hh e), ?_⟩
          unfold lastRow
          rw [List.length_take]
          exact Nat.min_le_left _ _
        · exact B.size row z
      · rw [List.flatten_cons, List.nodup_append]
        refine ⟨rnd, B.nd, ?_⟩
        intro a ha b hb eq
        have := (List.mem_filter.mp ((B.mem b).mp hb)).2
        exact of_decide_eq_true this (eq ▸ ha)
      · intro q
        rw [List.flatten_cons, List.mem_append, B.mem]
        constructor
        · rintro (z | z)
          · exact (lastRow_sub z).1
          · exact (List.mem_filter.mp z).1
        · intro z
          by_cases m : q ∈ lastRow fr h l
          · exact .inl m
          · exact .inr (List.mem_filter.mpr ⟨z, decide_eq_true m⟩)
      · intro i j q row row' e1 m1 e2 m2
        have ql : q ∈ l := by
          cases i with
          | zero =>
            cases (Option.some.inj e1)
            exact (lastRow_sub m1).1
          | succ i =>
            have e3 : (rowsB fr h n (lessRow l (lastRow fr h l)))[i]? = some row := e1
            exact (List.mem_filter.mp ((B.mem q).mp (List.mem_flatten.mpr ⟨row, List.mem_of_getElem? e3, m1⟩))).1
        cases j with
        | zero =>
          cases (Option.some.inj e2)
          exact absurd (List.mem_map.mpr ⟨q, ql, rfl⟩) (lastRow_sub m2).2
        | succ j =>
          cases i with
          | zero => exact Nat.succ_pos _
          | succ i => exact Nat.succ_lt_succ (B.ord i j q row row' e1 m1 e2 m2)
/-- rows that are these, each in some order -/
structure Same2 (rows rs : List (List Pr)) : Prop where
  len : rows.length = rs.length
  each : ∀ (i : Nat) (row : List Pr), rows[i]? = some row → ∃ r, rs[i]? = some r ∧ row.Perm r
theorem Same2.flat : ∀ {rows rs : List (List Pr)}, Same2 rows rs → rows.flatten.Perm rs.flatten
  | [], [], _ => .nil
  | [], _ :: _, s => by have := s.len; simp at this
  | _ :: _, [], s => by have := s.len; simp at this
  | row :: rows, r :: rs, s => by
    obtain ⟨r', e, p⟩ := s.each 0 row rfl
    cases (Option.some.inj e)
    have t : Same2 rows rs := ⟨by have := s.len; simpa using this, fun i x e => s.each (i + 1) x e⟩
    rw [List.flatten_cons, List.flatten_cons]
    exact p.append t.flat
theorem Back.good {rs rows : List (List Pr)} (B : Back fr h l rs) (pm : l.Perm ps) (s : Same2 rows rs.reverse) : Good fr ps h rows := by
  have fl : rows.flatten.Perm rs.flatten := s.flat.trans (List.reverse_perm rs).flatten
  have len : rows.length = rs.length := by rw [s.len, List.length_reverse]
  have at_ : ∀ (i : Nat) (row : List Pr), rows[i]? = some row → ∃ r, rs[rs.length - 1 - i]? = some r ∧ row.Perm r ∧ i < rs.length := by
    intro i row e
    obtain ⟨r, e2, p⟩ := s.each i row e
    have hi : i < rs.length := by
      rw [← len]
      exact (List.getElem?_eq_some_iff.mp e).1
    rw [List.getElem?_reverse hi] at e2
    exact ⟨r, e2, p, hi⟩
  refine ⟨?_, fl.nodup_iff.mpr B.nd, fun q => ?_, ?_⟩
  · intro row hr
    obtain ⟨i, hi, e⟩ := List.mem_iff_getElem.mp hr
    obtain ⟨r, e2, p, _⟩ := at_ i row (by rw [List.getElem?_eq_getElem hi, e])
    rw [p.length_eq]
    exact B.size r (List.mem_of_getElem? e2)
  · rw [fl.mem_iff, B.mem, pm.mem_iff]
  · intro i j q row row' e1 m1 e2 m2
    obtain ⟨r1, f1, p1, l1⟩ := at_ i row e1
    obtain ⟨r2, f2, p2, l2⟩ := at_ j row' e2
    have := B.ord _ _ q r1 r2 f1 (p1.mem_iff.mp m1) f2 (p2.mem_iff.mp m2)
    omega
theorem cnt_perm (pm : l.Perm ps) (d : Nat) : cnt fr ps l d = cnt fr ps ps d := (pm.filter _).length_eq
theorem Good.need_le {rows : List (List Pr)} (fo : FrOk fr) (oo : OldOk fr ps) (hh : 1 ≤ h) (g : Good fr ps h rows) (d : Nat) : need fr ps (h : Int) (d : Int) ≤ (rows.length : Int) := by
  rw [need_nat]
  have c := g.cnt_le fo oo d
  by_cases z : cnt fr ps ps d = 0
  · rw [if_pos z]
    omega
  · rw [if_neg z]
    have pos : d < rows.length := by
      rcases Nat.lt_or_ge d rows.length with y | y
      · exact y
      · rw [show rows.length - d = 0 by omega, Nat.mul_zero] at c
        omega
    have := (ceil_le (m := rows.length - d) hh (by omega)).mpr c
    generalize (cnt fr ps ps d + h - 1) / h = k at this ⊢
    omega
theorem ev_shows {rows : List (List Pr)} {n : Nat} (fo : FrOk fr) (oo : OldOk fr ps) (hh : 1 ≤ h) (L : Left fr ps l) (pm : l.Perm ps) (hn : l.length ≤ n) (s : Same2 rows (rowsB fr h n l).reverse) {d : Nat} (best : ∀ e : Nat, e < fr.length → need fr ps (h : Int) (e : Int) ≤ need fr ps (h : Int) (d : Int)) :
    Good fr ps h rows ∧ showsR fr ps (h : Int) rows (d : Int) = true := by
  have g := (rowsB_back fo oo hh n l hn L).good pm s
  refine ⟨g, ?_⟩
  have lo := g.need_le fo oo hh d
  have nn : ∀ e : Nat, 0 ≤ need fr ps (h : Int) (e : Int) := by
    intro e
    rw [need_nat]
    split
    · exact Int.le_refl _
    · exact Int.natCast_nonneg _
  have fit : Fit fr ps h l (need fr ps (h : Int) (d : Int)).toNat := by
    intro e
    rw [cnt_perm pm]
    rcases Nat.lt_or_ge e fr.length with z | z
    · by_cases c : cnt fr ps ps e = 0
      · rw [c]
        exact Nat.zero_le _
      · have b := best e z
        have e1 := need_nat (fr := fr) (ps := ps) (h := h) e
        rw [if_neg c] at e1
        rw [e1] at b
        refine (ceil_le (m := (need fr ps (h : Int) (d : Int)).toNat - e) hh (by omega)).mp ?_
        generalize (cnt fr ps ps e + h - 1) / h = k at b ⊢
        omega
    · rw [cnt_far fo oo z]
      exact Nat.zero_le _
  have hi := rowsB_few fo oo hh n l _ hn L fit
  have len : rows.length = (rowsB fr h n l).length := by rw [s.len, List.length_reverse]
  have n0 := nn d
  unfold showsR
  rw [g.areR, decide_eq_true (show (0 : Int) ≤ (d : Int) by omega), decide_eq_true (show (rows.length : Int) = need fr ps (h : Int) (d : Int) by omega)]
  rfl
end
end PD

/-! Phrasedesk: p < q of pairs of numbers; what stays where all but tables stay -/
namespace PD
open PySem PySem.Spec PyProof.Rows L2
def ltPr (p q : Pr) : Bool := decide (p.1 < q.1) || (decide (p.1 = q.1) && decide (p.2 < q.2))
def rLtP : R2 := fun x y H Q => ∃ (a b : Addr) (p q : Pr), x = .ref a ∧ y = .ref b ∧ H a = some (.tup [.int p.1, .int p.2]) ∧ H b = some (.tup [.int q.1, .int q.2]) ∧ Q (.bl (ltPr p q)) H
theorem lexAt_pr (p q : Pr) : Ob.lexAt (fun j => decide ([p.1, p.2].getD j 0 = [q.1, q.2].getD j 0)) (fun j => decide ([p.1, p.2].getD j 0 < [q.1, q.2].getD j 0)) (decide (2 < 2)) 0 2 = ltPr p q := by
  unfold ltPr
  show (if decide (p.1 = q.1) = true then (if decide (p.2 = q.2) = true then decide (2 < 2) else decide (p.2 < q.2)) else decide (p.1 < q.1)) = _
  by_cases h1 : p.1 = q.1
  · have h2 : ¬ p.1 < q.1 := by omega
    by_cases h3 : p.2 = q.2
    · have h4 : ¬ p.2 < q.2 := by omega
      simp [h1, h3]
    · simp [h1, h3]
  · simp [h1]
section
variable {X : Cx}
theorem op_ltP (hu : X.A.units < cLine) : OpR X (compareOp .Lt) rLtP := by
  intro pins z σ G x y v u Q I rx ry h
  obtain ⟨a, b, p, q, rfl, rfl, ha, hb, k⟩ := h
  cases rx
  cases ry
  obtain ⟨is1, r1, t1, _⟩ := I.tuple (SqT.of (K := X.K) ha)
  obtain ⟨is2, r2, t2, _⟩ := I.tuple (SqT.of (K := X.K) hb)
  have i1 : IntsAre is1 [p.1, p.2] := Vals.ints (ns := [p.1, p.2]) r1
  have i2 : IntsAre is2 [q.1, q.2] := Vals.ints (ns := [q.1, q.2]) r2
  have s1 : is1.toArray.size = 2 := (List.size_toArray ..).trans i1.length
  have s2 : is2.toArray.size = 2 := (List.size_toArray ..).trans i2.length
  have g1 : ∀ j (hj : j < is1.toArray.size), ∃ t, is1.toArray[j] = .int ([p.1, p.2].getD j 0) t := by
    intro j hj
    refine PyProof.Rows.IntsAre.int_at i1 _ _ ?_
    simp at hj
    simp [hj]
  have g2 : ∀ j (hj : j < is2.toArray.size), ∃ t, is2.toArray[j] = .int ([q.1, q.2].getD j 0) t := by
    intro j hj
    refine PyProof.Rows.IntsAre.int_at i2 _ _ ?_
    simp at hj
    simp [hj]
  have eqs : ∀ m n : Int, (m == n) = decide (m = n) := by
    intro m n
    by_cases c : m = n
    · rw [decide_eq_true c]
      exact beq_iff_eq.mpr c
    · rw [decide_eq_false c]
      exact beq_eq_false_iff_ne.mpr c
  have R := Ob.RcOp.tuples_lt (A := X.A) (s := z) (e := fun j => decide ([p.1, p.2].getD j 0 = [q.1, q.2].getD j 0)) (r := fun j => decide ([p.1, p.2].getD j 0 < [q.1, q.2].getD j 0)) t1 t2 hu ?_ ?_
  · rw [s1, s2] at R
    rw [show min 2 2 = 2 from rfl, lexAt_pr] at R
    exact R _ _ _ _ ⟨.bl (ltPr p q), G, I, rfl, k⟩
  · intro j h1 h2
    obtain ⟨t, e1⟩ := g1 j h1
    obtain ⟨t', e2⟩ := g2 j h2
    rw [e1, e2, ← eqs]
    exact SeqAt.EqAt.int_int _ _ _ _
  · intro j h1 h2 _
    obtain ⟨t, e1⟩ := g1 j h1
    obtain ⟨t', e2⟩ := g2 j h2
    rw [e1, e2]
    exact Ob.RcOp.lt_int _ _ _ _
end
/-! ### what stays where all but the tables stay -/
open LamX (ExtN Tabs)
theorem ExtN.same {H H' : Hp} (s : Same H H') : ExtN H H' := fun b o e _ => s b o e
theorem ls_ext {H H' : Hp} (e : ExtN H H') {p : Addr} {ns : List Int} (h : LsAt H p ns) : LsAt H' p ns := e _ _ h fun _ z => nomatch z
theorem prv_ext {H H' : Hp} (e : ExtN H H') {v : V} {q : Pr} (h : PrV H v q) : PrV H' v q := let ⟨p, a, b⟩ := h; ⟨p, a, e _ _ b fun _ z => nomatch z⟩
theorem prs_ext {H H' : Hp} (e : ExtN H H') {a : Addr} {ps : List Pr} (h : PrsAt H a ps) : PrsAt H' a ps := let ⟨vs, x, y⟩ := h; ⟨vs, e _ _ x (fun _ z => nomatch z), y.mono fun _ _ z => prv_ext e z⟩
theorem rws_ext {H H' : Hp} (e : ExtN H H') {a : Addr} {rows : List (List Pr)} (h : RwsAt H a rows) : RwsAt H' a rows := let ⟨vs, x, y⟩ := h; ⟨vs, e _ _ x (fun _ z => nomatch z), y.mono fun _ _ ⟨r, z, u⟩ => ⟨r, z, prs_ext e u⟩⟩
/-! ### pairs sorted by a key -/
theorem perm_lift {α β : Type} {f : α → β} {l m : List β} (p : l.Perm m) : ∀ {z : List α}, z.map f = m → ∃ z' : List α, z'.Perm z ∧ z'.map f = l := by
  induction p with
  | nil =>
    intro z e
    exact ⟨[], by rw [List.map_eq_nil_iff.mp e], rfl⟩
  | cons x _ ih =>
    intro z e
    cases z with
    | nil => cases e
    | cons y z =>
      rw [List.map_cons] at e
      injection e with e1 e2
      obtain ⟨z', p, e3⟩ := ih e2
      exact ⟨y :: z', p.cons y, by rw [List.map_cons, e1, e3]⟩
  | swap x y l =>
    intro z e
    match z, e with
    | a :: b :: z, e =>
      rw [List.map_cons, List.map_cons] at e
      injection e with e1 e2
      injection e2 with e2 e3
      exact ⟨b :: a :: z, List.Perm.swap _ _ _, by rw [List.map_cons, List.map_cons, e1, e2, e3]⟩
  | trans _ _ i1 i2 =>
    intro z e
    obtain ⟨z2, p2, e2⟩ := i2 e
    obtain ⟨z1, p1, e1⟩ := i1 e2
    exact ⟨z1, p1.trans p2, e1⟩
theorem all2_zip {α : Type} {F : V → α → Prop} : ∀ {z : List (α × V)}, (∀ p ∈ z, F p.2 p.1) → All2 F (z.map Prod.snd) (z.map Prod.fst)
  | [], _ => All2.nil
  | p :: z, h => All2.cons (h p List.mem_cons_self) (all2_zip fun q hq => h q (List.mem_cons_of_mem _ hq))
theorem sorted_prs {H : Hp} {f : Pr → Int} {ws ys : List V} {ps : List Pr} (hp : Prs H ws ps) (s : SortBy true (ps.map f) ws ys) : ∃ qs, Prs H ys qs ∧ qs.Perm ps ∧ qs.Pairwise fun p q => f q ≤ f p := by
  obtain ⟨pr, pm, rfl, pw, _⟩ := s
  have len := hp.len
  have e : (ps.zip ws).map (fun z : Pr × V => (f z.1, z.2)) = (ps.map f).zip ws := by
    rw [List.zip_map_left]
    exact List.map_congr_left fun ⟨x, y⟩ _ => rfl
  obtain ⟨z, pz, rfl⟩ := perm_lift pm e
  refine ⟨z.map Prod.fst, ?_, ?_, ?_⟩
  · have e2 : (z.map fun z : Pr × V => (f z.1, z.2)).map Prod.snd = z.map Prod.snd := by
      rw [List.map_map]
      rfl
    rw [e2]
    refine all2_zip ?_
    intro p hm
    have m := pz.mem_iff.mp hm
    obtain ⟨i, hi, ei⟩ := List.mem_iff_getElem.mp m
    rw [List.length_zip] at hi
    rw [List.getElem_zip] at ei
    obtain ⟨x, ex, F⟩ := hp.at (show ws[i]? = some p.2 by rw [← ei]; exact List.getElem?_eq_getElem (by omega))
    have ep : ps[i]? = some p.1 := by rw [← ei]; exact List.getElem?_eq_getElem (by omega)
    rw [ep] at ex
    rw [Option.some.inj ex]
    exact F
  · have m1 := pz.map Prod.fst
    rw [List.map_fst_zip (by omega)] at m1
    exact m1
  · rw [List.pairwise_map] at pw ⊢
    exact pw.imp fun h => by simpa using h
theorem Prs.ext {H H' : Hp} (e : ExtN H H') {vs : List V} {ps : List Pr} (h : Prs H vs ps) : Prs H' vs ps := h.mono fun _ _ z => prv_ext e z
/-- list(xs), within a comprehension -/
def rListOf (K : PySem.W.Frag) : List V → Hp → VK → Prop := fun xs H Q => ∃ p ys, xs = [.ref p] ∧ (SqL K H p ys ∨ SqT K H p ys) ∧ ∀ l, H l = none → Q (.ref l) (upd H l (.lst ys))
end PD

/-! Phrasedesk: the law's call where defs make lambdas: the tables of their code objects are tracked -/
namespace PD
open PySem PySem.Spec PyProof.Rows L2 LamX
section
variable {P : Program} {w : World} {K : PySem.W.Frag} {mg mb : Str → Option Value} {lv : Nat} {fa a : Addr} {cs : List (Addr × Addr)} {fd : FuncData} {x : Str} {sp : Sp} {z : Shared} {us : List Value} {ns : List Int}
abbrev tabs2 (cs : List (Addr × Addr)) : List Addr := cs.map (·.2)
abbrev noTab : Obj := { cls := .none, data := .fields #[] }
theorem tab_at (h : ∀ p ∈ cs, z.heap.get? p.2 = some noTab) {b : Addr} (m : b ∈ tabs2 cs) : z.heap.get? b = some noTab := by
  obtain ⟨p, hp, rfl⟩ := List.mem_map.mp m
  exact h p hp
theorem callT_from {G : Hp} (KZ : K.In z.heap) (hns : z.heap.Ns mainGlobals mg) (hbn : z.heap.Ns builtinsNs mb) (hbb : ∀ y : Str, y ≠ "__name__" → mb y = bootBuiltins y) (lim : z.heap.NoLimit) (hgn : z.gens = #[])
    (te : ∀ p ∈ cs, z.heap.get? p.2 = some noTab) (tk : ∀ p ∈ cs, K.lookup p.2 = none) (tc : ∀ p ∈ cs, PySem.W.CodeHd z.heap p.1 p.2)
    (bmn : ∃ (bm : Addr) (ob : Obj), mg "__builtins__" = some (.ref bm) ∧ bm ≠ builtinsNs ∧ z.heap.get? bm = some ob ∧ ob.cls = .type "module" ∧ ob.dict = some builtinsNs ∧ ob.data = .plain)
    (obj : z.heap.get? a = some { cls := .type "list", data := .seq us.toArray }) (room : Room lv callerA) (F : ∀ base : Heap, K.In base → base.Ns mainGlobals mg → (∀ p ∈ cs, TabB base mg p.1 p.2) → FnG P w K mg base lv fa fd [x] sp)
    (bind : ∀ (t : Shared) (u : Value), BindsTo t fd ⟨[u], []⟩ [(x, u)]) (gt : ∀ p ∈ cs, G p.2 = some (.tbl #[])) (only : ∀ b, G b = none ∨ b ∈ tabs2 cs ∨ ∃ o xs, G b = some (.frz o (.lst xs))) (goal : sp [.ref a] G (fun v _ => v = .bl true) fun _ _ _ => False) (ok : HOk P w G z.heap)
    (at_ : ∀ b, G b ≠ none → b = a ∨ b ∈ tabs2 cs) (out : G a ≠ none → K.lookup a = none) :
    codeAny (model P w) callerA (.call (.ref fa) ⟨[.ref a], []⟩) (fun r t => r = .ok (.ret (.bool true)) ∧ OldK z.heap t.heap ∧ t.os = z.os ∧ AllBare t.gens) z := by
  have stays : ∀ {b : Addr} {o : Obj}, z.heap.get? b = some o → G b = none → (hidT z.heap G).get? b = some o := fun e n => hidT_get e n
  have free : ∀ {b : Addr} {o : Obj}, z.heap.get? b = some o → (∀ vs n, o.data ≠ .seq vs n) → o.data ≠ .fields #[] → G b = none := by
    intro b o e h1 h2
    cases t : G b with
    | none => rfl
    | some v =>
      rcases at_ b (by rw [t]; simp) with q | q
      · rw [q, obj] at e
        rw [← Option.some.inj e] at h1
        exact (h1 _ _ rfl).elim
      · rw [tab_at te q] at e
        rw [← Option.some.inj e] at h2
        exact (h2 rfl).elim
  have freeD : ∀ {b : Addr} {o : Obj} {es : Array DictEntry} {ep : Nat}, z.heap.get? b = some o → o.data = .dict es ep → G b = none := by
    intro b o es ep e d
    exact free e (fun _ _ q => by rw [d] at q; cases q) fun q => by rw [d] at q; cases q
  have nsH : ∀ {b : Addr} {m : Str → Option Value}, z.heap.Ns b m → (hidT z.heap G).Ns b m := by
    rintro b m ⟨o, es, ep, e, d, r⟩
    exact ⟨o, es, ep, stays e (freeD e d), d, r⟩
  have KH : K.In (hidT z.heap G) := by
    intro b o e
    refine stays (KZ b o e) ?_
    cases t : G b with
    | none => rfl
    | some v =>
      rcases at_ b (by rw [t]; simp) with q | q
      · rw [q] at e t
        rw [out (by rw [t]; simp)] at e
        cases e
      · obtain ⟨p, hp, rfl⟩ := List.mem_map.mp q
        rw [tk p hp] at e
        cases e
  have md : Mod K mg (hidT z.heap G) := by
    obtain ⟨mc, h1, h2⟩ := lim
    exact ⟨KH, nsH hns, ⟨mb, nsH hbn, hbb⟩, ⟨mc, nsH h1, h2⟩⟩
  have TB : ∀ p ∈ cs, TabB (hidT z.heap G) mg p.1 p.2 := by
    intro p hp
    have tp := te p hp
    have gl : mainGlobals ≠ p.2 := by
      intro q
      obtain ⟨o, es, ep, e, hd, _⟩ := hns
      rw [q, tp] at e
      rw [← Option.some.inj e] at hd
      cases hd
    refine ⟨?_, ?_, gl⟩
    · obtain ⟨o, vs, file, tf, flags, tg, inF, text, tt, e1, r1, r2, r3, r⟩ := tc p hp
      refine ⟨o, vs, file, tf, flags, tg, inF, text, tt, stays e1 (free e1 (fun _ _ q => ?_) fun q => ?_), r1, r2, r3, r⟩
      · rw [r2] at q
        cases q
      · rw [r2] at q
        cases q
        simp at r3
    · obtain ⟨bm, ob, b1, b2, b3, b4, b5, b6⟩ := bmn
      refine ⟨bm, ob, b1, b2, ?_, ?_, stays b3 (free b3 (fun _ _ q => ?_) fun q => ?_), b4, b5, b6⟩
      · intro q
        obtain ⟨o, es, ep, e, hd, _⟩ := hns
        rw [q, e] at b3
        rw [← Option.some.inj b3, hd] at b6
        cases b6
      · intro q
        rw [q, tp] at b3
        rw [← Option.some.inj b3] at b6
        cases b6
      · rw [b6] at q
        cases q
      · rw [b6] at q
        cases q
  have e0 : Env0 P w K mg (hidT z.heap G) callerA [] z G := by
    refine ⟨rfl, md, fun b o e => of_hidT e, Nat.le_of_eq (hidT_size _ _), trivial, ?_, ok, .of_eq hgn⟩
    intro b hb
    exact absurd (show b ∈ ([] : List Addr) from hb) (by simp)
  have run := (F _ KH (nsH hns) TB).goes callerA [] z G ⟨[.ref a], []⟩ [.ref a] [.ref a] _ _ rfl room e0 (bind z (.ref a)) (.cons rfl .nil) goal
  refine codeAny_mono run ?_
  intro r t h
  cases r with
  | error er => exact (show False from h).elim
  | ok fl =>
    cases fl with
    | next => exact (show False from h).elim
    | brk => exact (show False from h).elim
    | cont => exact (show False from h).elim
    | ret u =>
      obtain ⟨v, G', os, bare, un, ok', rv, qv⟩ := h
      cases (show v = .bl true from qv)
      cases (show u = Value.bool true from rv)
      have same : ∀ b o, b ∉ tabs2 cs → z.heap.get? b = some o → t.heap.get? b = some o := by
        intro b o nb e
        cases t2 : G b with
        | none => exact un.keep b o e t2 (fun m => absurd (show b ∈ ([] : List Addr) from m) (by simp)) (by simp)
        | some v =>
          rcases only b with n | n | ⟨ob, xs, n⟩
          · rw [t2] at n
            cases n
          · exact absurd n nb
          · obtain ⟨q1, _⟩ := ok b _ n
            obtain ⟨q2, _⟩ := ok' b _ (un.frzs b ob _ n)
            rw [e] at q1
            rw [Option.some.inj q1]
            exact q2
      have more : ∀ p ∈ cs, ∃ vs : Array Value, t.heap.get? p.2 = some { cls := .none, data := .fields vs } := by
        intro p hp
        obtain ⟨vs, q⟩ := un.tbls p.2 #[] (gt p hp)
        exact ⟨_, ok' p.2 _ q⟩
      refine ⟨rfl, ⟨fun b o e => ?_, fun b o e => ?_⟩, os, bare⟩
      · by_cases hb : b ∈ tabs2 cs
        · obtain ⟨p, hp, rfl⟩ := List.mem_map.mp hb
          obtain ⟨vs, q⟩ := more p hp
          rw [te p hp] at e
          rw [← Option.some.inj e]
          exact .inr (.inl ⟨((tc p hp).tab (te p hp)).isCodeTable, rfl, #[], vs, rfl, by rw [Array.empty_append]; exact q⟩)
        · exact .inl (same b o hb e)
      · by_cases hb : b ∈ tabs2 cs
        · obtain ⟨p, hp, rfl⟩ := List.mem_map.mp hb
          obtain ⟨vs, q⟩ := more p hp
          exact ⟨_, q⟩
        · exact ⟨o, same b o hb e⟩
theorem callT_goes (KZ : K.In z.heap) (hns : z.heap.Ns mainGlobals mg) (hbn : z.heap.Ns builtinsNs mb) (hbb : ∀ y : Str, y ≠ "__name__" → mb y = bootBuiltins y) (lim : z.heap.NoLimit) (hgn : z.gens = #[])
    (te : ∀ p ∈ cs, z.heap.get? p.2 = some noTab) (tk : ∀ p ∈ cs, K.lookup p.2 = none) (tc : ∀ p ∈ cs, PySem.W.CodeHd z.heap p.1 p.2)
    (bmn : ∃ (bm : Addr) (ob : Obj), mg "__builtins__" = some (.ref bm) ∧ bm ≠ builtinsNs ∧ z.heap.get? bm = some ob ∧ ob.cls = .type "module" ∧ ob.dict = some builtinsNs ∧ ob.data = .plain)
    (obj : z.heap.get? a = some { cls := .type "list", data := .seq us.toArray }) (isn : IntsAre us ns) (small : ns.length ≤ sizeLine) (room : Room lv callerA) (F : ∀ base : Heap, K.In base → base.Ns mainGlobals mg → (∀ p ∈ cs, TabB base mg p.1 p.2) → FnG P w K mg base lv fa fd [x] sp)
    (bind : ∀ (t : Shared) (u : Value), BindsTo t fd ⟨[u], []⟩ [(x, u)]) (goal : ∀ G : Hp, (∀ p ∈ cs, G p.2 = some (.tbl #[])) → SqL K G a (ns.map V.int) → sp [.ref a] G (fun v _ => v = .bl true) fun _ _ _ => False) :
    codeAny (model P w) callerA (.call (.ref fa) ⟨[.ref a], []⟩) (fun r t => r = .ok (.ret (.bool true)) ∧ OldK z.heap t.heap ∧ t.os = z.os ∧ AllBare t.gens) z := by
  have rv := vals_ints isn
  have len := isn.length
  have na : a ∉ tabs2 cs := by
    intro m
    have q := tab_at te m
    rw [obj] at q
    have q2 : Data.seq us.toArray _ = Data.fields #[] := congrArg Obj.data (Option.some.inj q)
    cases q2
  have mt : ∀ p ∈ cs, p.2 ∈ tabs2 cs := fun p hp => List.mem_map.mpr ⟨p, hp, rfl⟩
  cases inK : K.lookup a with
  | some o =>
    have e := KZ a o inK
    rw [obj] at e
    have eo := Option.some.inj e
    subst eo
    let G : Hp := fun b => if b ∈ tabs2 cs then some (.tbl #[]) else none
    have g1 : ∀ b, b ∈ tabs2 cs → G b = some (.tbl #[]) := fun b m => if_pos m
    have g2 : ∀ b, b ∉ tabs2 cs → G b = none := fun b m => if_neg m
    have sq : SqL K G a (ns.map V.int) := .inr ⟨_, us.toArray, _, inK, rfl, rfl, rfl, by rw [List.size_toArray, len]; exact small, by simpa using rv⟩
    refine callT_from (G := G) KZ hns hbn hbb lim hgn te tk tc bmn obj room F bind (fun p hp => g1 _ (mt p hp)) ?_ (goal G (fun p hp => g1 _ (mt p hp)) sq) ?_ ?_ fun n => absurd (g2 a na) n
    · intro b
      by_cases h : b ∈ tabs2 cs
      · exact .inr (.inl h)
      · exact .inl (g2 b h)
    · intro b u n
      by_cases h : b ∈ tabs2 cs
      · rw [g1 b h] at n
        rw [← Option.some.inj n]
        exact tab_at te h
      · rw [g2 b h] at n
        cases n
    · intro b n
      by_cases h : b ∈ tabs2 cs
      · exact .inr h
      · exact absurd (g2 b h) n
  | none =>
    let G : Hp := fun b => if b = a then some (.frz { cls := .type "list", data := .seq us.toArray } (.lst (ns.map V.int))) else if b ∈ tabs2 cs then some (.tbl #[]) else none
    have g0 : G a = some (.frz { cls := .type "list", data := .seq us.toArray } (.lst (ns.map V.int))) := if_pos rfl
    have g1 : ∀ b, b ∈ tabs2 cs → G b = some (.tbl #[]) := fun b m => (if_neg (fun q => na (by rw [← q]; exact m))).trans (if_pos m)
    have g2 : ∀ b, b ≠ a → b ∉ tabs2 cs → G b = none := fun b n m => (if_neg n).trans (if_neg m)
    refine callT_from (G := G) KZ hns hbn hbb lim hgn te tk tc bmn obj room F bind (fun p hp => g1 _ (mt p hp)) ?_ (goal G (fun p hp => g1 _ (mt p hp)) (.inl (.inr ⟨_, g0⟩))) ?_ ?_ fun _ => inK
    · intro b
      by_cases h : b = a
      · rw [h]
        exact .inr (.inr ⟨_, _, g0⟩)
      · by_cases h2 : b ∈ tabs2 cs
        · exact .inr (.inl h2)
        · exact .inl (g2 b h h2)
    · intro b u n
      by_cases h : b = a
      · rw [h, g0] at n
        rw [← Option.some.inj n, h]
        exact ⟨obj, by rw [List.length_map]; exact small, us, _, rv, obj⟩
      · by_cases h2 : b ∈ tabs2 cs
        · rw [g1 b h2] at n
          rw [← Option.some.inj n]
          exact tab_at te h2
        · rw [g2 b h h2] at n
          cases n
    · intro b n
      by_cases h : b = a
      · exact .inl h
      · by_cases h2 : b ∈ tabs2 cs
        · exact .inr h2
        · exact absurd (g2 b h h2) n
end
/-- the head's last goal, from the law's promise -/
theorem walkT {l : PySem.W.OpenLaw} {n lv : Nat} {q : Program} {loose : List Str} {XP : (Str → Option Value) → Heap → Prop} {YP : World → Heap → Prop} {d : DefRec} {x : Str} (most : l.most = some n) (small : n ≤ sizeLine) (nodef : d.params.defaults = []) (room : Room lv callerA)
    (F : ∀ (w : World) (mg : Str → Option Value) (fa : Addr) (h : Heap), YP w h → h.Ns mainGlobals mg → mg d.name = some (.ref fa) → ∃ (K : PySem.W.Frag) (fd : FuncData) (sp : Sp) (cs : List (Addr × Addr)), K.In h ∧ (∀ p ∈ cs, h.get? p.2 = some noTab) ∧ (∀ p ∈ cs, K.lookup p.2 = none) ∧ (∀ p ∈ cs, PySem.W.CodeHd h p.1 p.2) ∧
      (∀ (t : Shared) (u : Value), BindsTo t fd ⟨[u], []⟩ [(x, u)]) ∧ (∀ (G : Hp) (a : Addr) (ns : List Int), ns.length ≤ n → (∀ p ∈ cs, G p.2 = some (.tbl #[])) → SqL K G a (ns.map V.int) → sp [.ref a] G (fun v _ => v = .bl true) fun _ _ _ => False) ∧
      ∀ base : Heap, K.In base → base.Ns mainGlobals mg → (∀ p ∈ cs, TabB base mg p.1 p.2) → FnG l.prog w K mg base lv fa fd [x] sp) :
    PySem.W.WalkO q loose XP YP l.row.toRowW d [] (fun f vs => PySem.call f vs) := by
  refine Att.attach_call most nodef ?_
  intro w z0 z mg mb fa o pm cd doc a us ns G Y ho hd hcd hmg obj isn len gens
  obtain ⟨K, fd, sp, cs, KZ, te, tk, tc, bind, goal, hF⟩ := F w mg fa _ Y G.T.g hmg
  exact callT_goes KZ G.T.g G.T.b G.T.builtins G.T.nolimit gens te tk tc G.T.bmain obj isn (Nat.le_trans len small) room hF bind fun G' h1 h2 => goal G' a ns len h1 h2
/-! ### a def whose code object is known -/
section
variable {P : Program} {w : World} {K : PySem.W.Frag} {mg : Str → Option Value} {base : Heap} {x : Str} {st : Stmt} {N ps : List Str} {k : Nat} {sp : Sp}
theorem calT (F : ∃ fd, FunD K x x (defArgs st) (defBody st) (defScope st) [] [] (He.ga K x) fd) (hm : mg x = some (.ref (He.ga K x))) (hb : BindOk x x st ps) (S : FnScope N ps (defScope st)) (len : ∀ vs H Q E, sp vs H Q E → vs.length = ps.length)
    (b : ∀ (A : Around) (outer : List Env) (s : Shared) (H : Hp) (vs : List V) (Q : VK) (E : XK), Room k (A.deeper (envOfC x (defScope st) s.heap.objs.size (He.ga K x) (.ref (He.codeOf K (x, none))))) → sp vs H Q E →
      ∃ t, PSs (cxOf CX0 P w K mg base N x (defScope st) (He.ga K x) (.ref (He.codeOf K (x, none))) A outer s H E).nox (defBody st) t ∧ t { nx := fun _ H' => Q .non H', rt := Q } (start N vs) H) : C8.Cal P w K mg base (k + 1) x sp [] := by
  obtain ⟨fd, F⟩ := F
  refine ⟨He.ga K x, fd, ps, [], ?_, hm, F.kp, F.bindsN hb, .nil⟩
  obtain ⟨oc, od, dV, kV, doc, pm, an, cv, ct, sl, rfl, lk, hc, -, -⟩ := F.ex
  obtain ⟨c, rfl⟩ := He.codeIn_ref hc
  have ec : He.codeOf K (x, none) = c := He.codeOf_eq lk rfl
  constructor
  · exact len
  · intro A outer s H ar us vs Q E hr e0 hbd r hs
    refine LamX.run_ofS (N := N) (ps := ps) lk hc S hr e0 hbd r (len _ _ _ _ hs) fun hr' => ?_
    rw [← ec] at hr' ⊢
    obtain ⟨t, h1, h2⟩ := b A outer s H vs Q E hr' hs
    exact ⟨t, h1.nox, h2⟩
end
end PD

/-! Phrasedesk: filling, one behind another, as at once -/
namespace PD
open PySem PySem.Spec PyProof.Rows L2
theorem chain_eq {fr : List Int} {r r' : List Cell} (fo : FrOk fr) : ∀ t, t ≤ fr.length → (∀ u, u ≤ t → r.getD u Option.none = r'.getD u Option.none) → chain fr r t = chain fr r' t := by
  intro t
  induction t using Nat.strongRecOn with
  | _ t ih =>
    intro ht h
    by_cases t0 : t = 0
    · subst t0
      rfl
    · have hu := up_lt fo (by omega : 0 < t) ht
      rw [chain_step fo (by omega) ht, chain_step fo (by omega) ht, ih (up fr t) hu (by omega) fun u hu' => h u (by omega)]
      have e : brk fr r t = brk fr r' t := by
        unfold brk
        rw [h t (Nat.le_refl _), h (up fr t) (by omega)]
      rw [e]
/-- the same stands at a place -/
structure SameAt (A S : De) (q u : Nat) : Prop where
  now : A.now q u = S.now q u
  cell : A.cell q u = S.cell q u
  tx : A.tx q u = S.tx q u
theorem SameAt.refl {S : De} {q u : Nat} : SameAt S S q u := ⟨rfl, rfl, rfl⟩
theorem SameAt.trans {A B S : De} {q u : Nat} (h : SameAt A B q u) (k : SameAt B S q u) : SameAt A S q u := ⟨h.now.trans k.now, h.cell.trans k.cell, h.tx.trans k.tx⟩
section
variable {fr : List Int} {S A : De} {p q t : Nat}
theorem row_getD' {p t : Nat} (h : t ≤ fr.length) : (S.row (fr.length + 1) p).getD t Option.none = S.cell p t := by
  rw [List.getD_eq_getElem?_getD, De.row_at (by omega)]
  rfl
theorem chain_same (fo : FrOk fr) (ht : t ≤ fr.length) (h : ∀ u, u ≤ t → SameAt A S q u) : chain fr (A.row (fr.length + 1) q) t = chain fr (S.row (fr.length + 1) q) t :=
  chain_eq fo t ht fun u hu => by rw [row_getD' (by omega), row_getD' (by omega), (h u hu).cell]
theorem lay_at {x : Str} {s : Option Int} (ok : S.Ok fr) {p' u : Nat} (h : ¬ (p' = p ∧ u = t)) : SameAt (S.lay p t x s) S p' u := by
  have e : (S.lay p t x s).now p' u = S.now p' u := by
    show (setL S.lie p t _ p' u).getLast? = _
    unfold setL
    rw [if_neg h]
    rfl
  have pt : ∀ k, S.now p' u = some k → (S.lay p t x s).pt k = S.pt k := by
    intro k ek
    obtain ⟨k0, v, ev, _⟩ := ok.num.now ek
    rw [De.pt_at ev, De.pt_at (S := S.lay p t x s) (at_snoc ev)]
  refine ⟨e, ?_, ?_⟩
  · unfold De.cell
    rw [e]
    cases ek : S.now p' u with
    | none => rfl
    | some k => rw [Option.map_some, Option.map_some, pt k ek]
  · unfold De.tx
    rw [e]
    cases ek : S.now p' u with
    | none => rfl
    | some k =>
      show ((S.lay p t x s).pt k).x = (S.pt k).x
      rw [pt k ek]
theorem lay_here {x : Str} {s : Option Int} : (S.lay p t x s).now p t = some (S.puts.length : Int) ∧ (S.lay p t x s).cell p t = some ((S.puts.length : Int), s) ∧ (S.lay p t x s).tx p t = x := by
  have e : (S.lay p t x s).now p t = some (S.puts.length : Int) := by
    show (setL S.lie p t _ p t).getLast? = _
    unfold setL
    rw [if_pos ⟨rfl, rfl⟩]
    simp
  have e2 : (S.lay p t x s).pt (S.puts.length : Int) = ⟨p, t, x, s⟩ := De.pt_at (by
    show (S.puts ++ [_])[_]? = _
    rw [show ((S.puts.length : Int)).toNat = S.puts.length by omega, List.getElem?_append_right (Nat.le_refl _), Nat.sub_self]
    rfl)
  refine ⟨e, ?_, ?_⟩
  · unfold De.cell
    rw [e, Option.map_some, e2]
  · unfold De.tx
    rw [e]
    show ((S.lay p t x s).pt _).x = x
    rw [e2]
theorem found_mem {y : Str} {n : Nat} : y ∈ S.found fr p t n ↔ ∃ r, r < n ∧ S.like fr p t r = true ∧ y = S.tx r t := by
  unfold De.found
  rw [List.mem_map]
  constructor
  · rintro ⟨r, h, rfl⟩
    obtain ⟨h1, h2⟩ := List.mem_filter.mp h
    exact ⟨r, List.mem_range.mp h1, h2, rfl⟩
  · rintro ⟨r, h1, h2, rfl⟩
    exact ⟨r, List.mem_filter.mpr ⟨List.mem_range.mpr h1, h2⟩, rfl⟩
theorem like_iff {r : Nat} : S.like fr p t r = true ↔ r ≠ p ∧ (S.now p (up fr t)).isSome = true ∧ (S.now r (up fr t)).isSome = true ∧ S.tx p (up fr t) = S.tx r (up fr t) ∧ chain fr (S.row (fr.length + 1) r) t = Option.none := by
  unfold De.like
  simp only [Bool.and_eq_true, decide_eq_true_eq, Option.isNone_iff_eq_none]
theorem onlyOf_congr {l l' : List Str} (h : ∀ y, y ∈ l ↔ y ∈ l') : onlyOf l = onlyOf l' := by
  cases e : onlyOf l with
  | some x => exact (onlyOf_of fun y => (h y).symm.trans (onlyOf_some e y)).symm
  | none =>
    cases e' : onlyOf l' with
    | none => rfl
    | some x =>
      rw [onlyOf_of fun y => (h y).trans (onlyOf_some e' y)] at e
      cases e
/-- one that is to be filled with this text -/
structure Due (fr : List Int) (S : De) (t q : Nat) (x : Str) : Prop where
  up : chain fr (S.row (fr.length + 1) q) (up fr t) = Option.none
  brk : chain fr (S.row (fr.length + 1) q) t ≠ Option.none
  one : onlyOf (S.found fr q t S.n) = some x
structure Fil (fr : List Int) (t : Nat) (S A : De) (i : Nat) : Prop where
  n : A.n = S.n
  ok : A.Ok fr
  oth : ∀ q u, u ≠ t → SameAt A S q u
  late : ∀ q, i ≤ q → SameAt A S q t
  yes : ∀ q x, q < i → Due fr S t q x → chain fr (A.row (fr.length + 1) q) t = Option.none ∧ A.tx q t = x
  no : ∀ q, q < i → (¬ ∃ x, Due fr S t q x) → SameAt A S q t
theorem Fil.all {i : Nat} (h : Fil fr t S A i) {q : Nat} (s : SameAt A S q t) (u : Nat) : SameAt A S q u := by
  by_cases c : u = t
  · rw [c]
    exact s
  · exact h.oth q u c
theorem Fil.at {i : Nat} (h : Fil fr t S A i) (q : Nat) : (q < i ∧ ∃ x, Due fr S t q x) ∨ SameAt A S q t := by
  by_cases c : q < i
  · by_cases d : ∃ x, Due fr S t q x
    · exact .inl ⟨c, d⟩
    · exact .inr (h.no q c d)
  · exact .inr (h.late q (by omega))
theorem Fil.upc {i : Nat} (fo : FrOk fr) (t0 : 0 < t) (t1 : t ≤ fr.length) (h : Fil fr t S A i) (q : Nat) : chain fr (A.row (fr.length + 1) q) (up fr t) = chain fr (S.row (fr.length + 1) q) (up fr t) := by
  have hu := up_lt fo t0 t1
  exact chain_same fo (by omega) fun u hu' => h.oth q u (by omega)
theorem Fil.same {i : Nat} (fo : FrOk fr) (t1 : t ≤ fr.length) (h : Fil fr t S A i) {q : Nat} (s : SameAt A S q t) : chain fr (A.row (fr.length + 1) q) t = chain fr (S.row (fr.length + 1) q) t :=
  chain_same fo t1 fun u _ => h.all s u
/-- like texts of one that is broken stay -/
theorem Fil.found {i : Nat} (fo : FrOk fr) (t0 : 0 < t) (t1 : t ≤ fr.length) (h : Fil fr t S A i) {q : Nat} (hb : chain fr (S.row (fr.length + 1) q) t ≠ Option.none) (y : Str) : y ∈ A.found fr q t A.n ↔ y ∈ S.found fr q t S.n := by
  have hu := up_lt fo t0 t1
  have un : up fr t ≠ t := by omega
  rw [h.n]
  constructor
  · intro hy
    obtain ⟨r, hr, hl, rfl⟩ := found_mem.mp hy
    obtain ⟨l1, l2, l3, l4, l5⟩ := like_iff.mp hl
    rw [(h.oth q _ un).now] at l2
    rw [(h.oth r _ un).now] at l3
    rw [(h.oth q _ un).tx, (h.oth r _ un).tx] at l4
    rcases h.at r with ⟨c, x, d⟩ | s
    · rw [(h.yes r x c d).2]
      obtain ⟨r', hr', hl', ex⟩ := found_mem.mp ((onlyOf_some d.one x).mpr rfl)
      obtain ⟨m1, m2, m3, m4, m5⟩ := like_iff.mp hl'
      rw [ex]
      exact found_mem.mpr ⟨r', hr', like_iff.mpr ⟨fun z => hb (by rw [← z]; exact m5), l2, m3, l4.trans m4, m5⟩, rfl⟩
    · rw [h.same fo t1 s] at l5
      exact found_mem.mpr ⟨r, hr, like_iff.mpr ⟨l1, l2, l3, l4, l5⟩, s.tx⟩
  · intro hy
    obtain ⟨r, hr, hl, rfl⟩ := found_mem.mp hy
    obtain ⟨l1, l2, l3, l4, l5⟩ := like_iff.mp hl
    rcases h.at r with ⟨c, x, d⟩ | s
    · exact absurd l5 d.brk
    · rw [← (h.oth q _ un).now] at l2
      rw [← (h.oth r _ un).now] at l3
      rw [← (h.oth q _ un).tx, ← (h.oth r _ un).tx] at l4
      rw [← h.same fo t1 s] at l5
      exact found_mem.mpr ⟨r, hr, like_iff.mpr ⟨l1, l2, l3, l4, l5⟩, s.tx.symm⟩
/-- whether one is to be filled, then and now -/
theorem Fil.due {i : Nat} (fo : FrOk fr) (t0 : 0 < t) (t1 : t ≤ fr.length) (h : Fil fr t S A i) {q : Nat} (s : SameAt A S q t) {x : Str} : Due fr A t q x ↔ Due fr S t q x := by
  have e1 := h.upc fo t0 t1 q
  have e2 := h.same fo t1 s
  constructor
  · intro d
    have b : chain fr (S.row (fr.length + 1) q) t ≠ Option.none := by rw [← e2]; exact d.brk
    exact ⟨by rw [← e1]; exact d.up, b, by rw [← onlyOf_congr (h.found fo t0 t1 b)]; exact d.one⟩
  · intro d
    exact ⟨by rw [e1]; exact d.up, by rw [e2]; exact d.brk, by rw [onlyOf_congr (h.found fo t0 t1 d.brk)]; exact d.one⟩
/-- a text put from what stands above, that is fresh, is fresh -/
theorem fresh_laid (fo : FrOk fr) (ok : S.Ok fr) (t0 : 0 < t) (t1 : t ≤ fr.length) (hq : q < S.n) {x : Str} (hc : chain fr (S.row (fr.length + 1) q) (up fr t) = Option.none) : chain fr ((S.lay q t x (S.now q (up fr t))).row (fr.length + 1) q) t = Option.none := by
  have hu := up_lt fo t0 t1
  obtain ⟨k, ek⟩ := ok.above fo hq (by omega) hc
  have s : ∀ u, u ≠ t → SameAt (S.lay q t x (S.now q (up fr t))) S q u := fun u hu => lay_at ok fun z => hu z.2
  rw [chain_step fo t0 t1]
  have b : brk fr ((S.lay q t x (S.now q (up fr t))).row (fr.length + 1) q) t = false := by
    unfold brk
    rw [row_getD' t1, row_getD' (by omega), lay_here.2.1, (s (up fr t) (by omega)).cell]
    unfold De.cell
    rw [ek]
    simp
  rw [b, if_neg (by decide), chain_same fo (by omega) fun u hu' => s u (by omega), hc]
  rfl
/-- the phrases that are to be filled, with their texts -/
def De.dueTo (fr : List Int) (t : Nat) (S : De) (i : Nat) : List (Int × Str) := (List.range i).flatMap fun q =>
  if (chain fr (S.row (fr.length + 1) q) (up fr t)).isNone && (chain fr (S.row (fr.length + 1) q) t).isSome then
    match onlyOf (S.found fr q t S.n) with
    | some x => [((q : Int), x)]
    | Option.none => []
  else []
theorem dueTo_yes {x : Str} {i : Nat} (d : Due fr S t i x) : S.dueTo fr t (i + 1) = S.dueTo fr t i ++ [((i : Int), x)] := by
  unfold De.dueTo
  rw [List.range_succ, List.flatMap_append, List.flatMap_cons, List.flatMap_nil, List.append_nil, if_pos (by rw [d.up, Option.isSome_iff_ne_none.mpr d.brk]; rfl), d.one]
theorem dueTo_no {i : Nat} (d : ¬ ∃ x, Due fr S t i x) : S.dueTo fr t (i + 1) = S.dueTo fr t i := by
  unfold De.dueTo
  rw [List.range_succ, List.flatMap_append, List.flatMap_cons, List.flatMap_nil, List.append_nil]
  by_cases c : ((chain fr (S.row (fr.length + 1) i) (up fr t)).isNone && (chain fr (S.row (fr.length + 1) i) t).isSome) = true
  · rw [if_pos c]
    rw [Bool.and_eq_true] at c
    cases e : onlyOf (S.found fr i t S.n) with
    | none => rw [List.append_nil]
    | some x => exact absurd ⟨x, Option.isNone_iff_eq_none.mp c.1, Option.isSome_iff_ne_none.mp c.2, e⟩ d
  · rw [if_neg c, List.append_nil]
theorem dueTo_mem {i : Nat} {e : Int × Str} (h : e ∈ S.dueTo fr t i) : ∃ q : Nat, q < i ∧ e.1 = (q : Int) ∧ Due fr S t q e.2 := by
  induction i with
  | zero => cases h
  | succ i ih =>
    by_cases d : ∃ x, Due fr S t i x
    · obtain ⟨x, d⟩ := d
      rw [dueTo_yes d] at h
      rcases List.mem_append.mp h with z | z
      · obtain ⟨q, a, b⟩ := ih z
        exact ⟨q, by omega, b⟩
      · rw [List.mem_singleton.mp z]
        exact ⟨i, by omega, rfl, d⟩
    · rw [dueTo_no d] at h
      obtain ⟨q, a, b⟩ := ih h
      exact ⟨q, by omega, b⟩
theorem dueTo_len {i : Nat} : (S.dueTo fr t i).length ≤ i := by
  induction i with
  | zero => exact Nat.le_refl _
  | succ i ih =>
    by_cases d : ∃ x, Due fr S t i x
    · obtain ⟨x, d⟩ := d
      rw [dueTo_yes d, List.length_append, List.length_singleton]
      omega
    · rw [dueTo_no d]
      omega
theorem fill_due {B : De × List Int × List Line} {x : Str} (d : Due fr B.1 t q x) : De.fillOne fr t B q = (B.1.lay q t x (B.1.now q (up fr t)), B.2.1 ++ [(q : Int)], B.2.2 ++ [.put q t x (B.1.now q (up fr t)) (B.1.now q t) (B.1.puts.length : Int)]) := De.fill_yes d.up d.brk d.one
theorem fill_not {B : De × List Int × List Line} (d : ¬ ∃ x, Due fr B.1 t q x) : De.fillOne fr t B q = B := by
  by_cases c1 : chain fr (B.1.row (fr.length + 1) q) (up fr t) = Option.none
  · by_cases c2 : chain fr (B.1.row (fr.length + 1) q) t = Option.none
    · exact De.fill_no (.inr (.inl c2))
    · cases c3 : onlyOf (B.1.found fr q t B.1.n) with
      | none => exact De.fill_no (.inr (.inr c3))
      | some x => exact absurd ⟨x, c1, c2, c3⟩ d
  · exact De.fill_no (.inl c1)
/-- filled one behind another, as at once -/
theorem fil_to (fo : FrOk fr) (ok : S.Ok fr) (t0 : 0 < t) (t1 : t ≤ fr.length) : ∀ i, i ≤ S.n → Fil fr t S (S.fillTo fr t i).1 i ∧ (S.fillTo fr t i).2.1 = (S.dueTo fr t i).map (·.1)
  | 0, _ => ⟨⟨rfl, ok, fun _ _ _ => .refl, fun _ _ => .refl, fun _ _ z => absurd z (Nat.not_lt_zero _), fun _ z => absurd z (Nat.not_lt_zero _)⟩, rfl⟩
  | i + 1, hi => by
    obtain ⟨F, e⟩ := fil_to fo ok t0 t1 i (by omega)
    have hu := up_lt fo t0 t1
    have n6 := F.n
    rw [De.fillTo_succ]
    generalize S.fillTo fr t i = B at F e n6 ⊢
    have si := F.late i (Nat.le_refl _)
    by_cases d : ∃ x, Due fr S t i x
    · obtain ⟨x, d⟩ := d
      have dB := (F.due fo t0 t1 si).mpr d
      rw [fill_due dB, dueTo_yes d, List.map_append, ← e]
      obtain ⟨k, ek⟩ := F.ok.above fo (p := i) (by omega) (by omega) dB.up
      have sn : B.1.Seen fr i t (B.1.now i (up fr t)) := ⟨fun z => by omega, fun _ => by
        obtain ⟨j, ej, v, e1, e2, e3⟩ := F.ok.seen_now ek
        exact ⟨j, by rw [ek, ej], v, e1, e2, e3⟩⟩
      have tx : TxOk x := F.ok.found fo t0 t1 ((onlyOf_some dB.one x).mpr rfl)
      have away : ∀ p' u, ¬ (p' = i ∧ u = t) → SameAt (B.1.lay i t x (B.1.now i (up fr t))) B.1 p' u := fun p' u z => lay_at F.ok z
      refine ⟨⟨F.n, F.ok.lay (by omega) t1 tx sn, fun q u h => (away q u fun z => h z.2).trans (F.oth q u h), fun q h => (away q t fun z => by omega).trans (F.late q (by omega)), fun q y hq dq => ?_, fun q hq dq => ?_⟩, rfl⟩
      · by_cases c : q = i
        · subst c
          have ey : y = x := Option.some.inj (dq.one.symm.trans d.one)
          exact ⟨fresh_laid fo F.ok t0 t1 (by omega) dB.up, by rw [ey]; exact lay_here.2.2⟩
        · obtain ⟨h1, h2⟩ := F.yes q y (by omega) dq
          exact ⟨(chain_same fo t1 fun u _ => away q u fun z => c z.1).trans h1, (away q t fun z => c z.1).tx.trans h2⟩
      · have c : q ≠ i := fun z => dq ⟨x, by rw [z]; exact d⟩
        exact (away q t fun z => c z.1).trans (F.no q (by omega) dq)
    · have dB : ¬ ∃ x, Due fr B.1 t i x := fun ⟨x, z⟩ => d ⟨x, (F.due fo t0 t1 si).mp z⟩
      rw [fill_not dB, dueTo_no d]
      refine ⟨⟨F.n, F.ok, F.oth, fun q h => F.late q (by omega), fun q y hq dq => ?_, fun q hq dq => ?_⟩, e⟩
      · by_cases c : q = i
        · exact absurd ⟨y, by rw [← c]; exact dq⟩ d
        · exact F.yes q y (by omega) dq
      · by_cases c : q = i
        · rw [c]
          exact si
        · exact F.no q (by omega) dq
/-- filled again: none -/
theorem fil_again (fo : FrOk fr) (t0 : 0 < t) (t1 : t ≤ fr.length) (F : Fil fr t S A S.n) : ∀ i, i ≤ A.n → A.fillTo fr t i = (A, [], [])
  | 0, _ => rfl
  | i + 1, hi => by
    rw [De.fillTo_succ, fil_again fo t0 t1 F i (by omega)]
    have n6 := F.n
    refine fill_not fun ⟨x, d⟩ => ?_
    rcases F.at i with ⟨c, y, dy⟩ | s
    · exact d.brk (F.yes i y c dy).1
    · have dS := (F.due fo t0 t1 s).mp d
      exact d.brk (F.yes i x (by omega) dS).1
end
end PD

/-! Phrasedesk: sorted texts, each once, are told by their members -/
namespace PD
open PySem PySem.Spec PyProof.Rows L2
def leS (a b : Str) : Prop := a.cps.toList ≤ b.cps.toList
theorem leS_of {a b : Str} (h : ltCps b.cps.toList a.cps.toList = false) : leS a b := by
  rw [ltCps_eq] at h
  exact List.not_lt.mp (of_decide_eq_false h)
theorem leS_trans {a b c : Str} (h : leS a b) (k : leS b c) : leS a c := List.le_trans h k
theorem leS_anti {a b : Str} (h : leS a b) (k : leS b a) : a = b := by
  have e : a.cps.toList = b.cps.toList := List.le_antisymm h k
  cases a
  cases b
  congr 1
  exact Array.toList_inj.mp e
theorem rising_pw : ∀ (l : List Str) (p : Str), risingS p l = true → (∀ x ∈ l, leS p x) ∧ l.Pairwise leS
  | [], _, _ => ⟨fun _ h => (nomatch h), .nil⟩
  | y :: r, p, h => by
    have h' : (!ltCps y.cps.toList p.cps.toList && risingS y r) = true := h
    rw [Bool.and_eq_true] at h'
    obtain ⟨h1, h2⟩ := h'
    obtain ⟨a, b⟩ := rising_pw r y h2
    have py : leS p y := leS_of (by simpa using h1)
    refine ⟨fun x hx => ?_, List.pairwise_cons.mpr ⟨a, b⟩⟩
    rcases List.mem_cons.mp hx with rfl | hx
    · exact py
    · exact leS_trans py (a x hx)
theorem sorted_pw : ∀ {l : List Str}, sortedS l = true → l.Pairwise leS
  | [], _ => .nil
  | x :: r, h => List.pairwise_cons.mpr (rising_pw r x h)
theorem sorted_one : ∀ {l m : List Str}, l.Pairwise leS → m.Pairwise leS → l.Nodup → m.Nodup → (∀ y, y ∈ l ↔ y ∈ m) → l = m
  | [], [], _, _, _, _, _ => rfl
  | [], b :: m, _, _, _, _, h => absurd ((h b).mpr List.mem_cons_self) (fun z => nomatch z)
  | a :: l, [], _, _, _, _, h => absurd ((h a).mp List.mem_cons_self) (fun z => nomatch z)
  | a :: l, b :: m, p, q, n, k, h => by
    obtain ⟨p1, p2⟩ := List.pairwise_cons.mp p
    obtain ⟨q1, q2⟩ := List.pairwise_cons.mp q
    obtain ⟨n1, n2⟩ := List.nodup_cons.mp n
    obtain ⟨k1, k2⟩ := List.nodup_cons.mp k
    have e : a = b := by
      rcases List.mem_cons.mp ((h a).mp List.mem_cons_self) with z | z
      · exact z
      · rcases List.mem_cons.mp ((h b).mpr List.mem_cons_self) with w | w
        · exact w.symm
        · exact leS_anti (p1 b w) (q1 a z)
    subst e
    rw [sorted_one p2 q2 n2 k2 fun y => ⟨fun hy => ?_, fun hy => ?_⟩]
    · rcases List.mem_cons.mp ((h y).mp (List.mem_cons_of_mem _ hy)) with z | z
      · exact absurd (z ▸ hy) n1
      · exact z
    · rcases List.mem_cons.mp ((h y).mpr (List.mem_cons_of_mem _ hy)) with z | z
      · exact absurd (z ▸ hy) k1
      · exact z
theorem sorted_same {l m : List Str} (s1 : sortedS l = true) (s2 : sortedS m = true) (n1 : l.Nodup) (n2 : m.Nodup) (h : ∀ y, y ∈ l ↔ y ∈ m) : l = m := sorted_one (sorted_pw s1) (sorted_pw s2) n1 n2 h
/-- texts as data -/
def dSs (ts : List Str) : PyData := .list (ts.map .str)
section
variable {K : PySem.W.Frag} {H : Hp}
theorem dpa_strs : ∀ ts : List Str, DpAll K H (ts.map V.str) (ts.map PyData.str)
  | [] => .nil
  | x :: r => .cons (.str x) (dpa_strs r)
theorem dp_strs {a : Addr} {ts : List Str} (h : H a = some (.lst (ts.map V.str))) : Dp K H (.ref a) (dSs ts) := .lst (SqL.of h) (dpa_strs ts)
end
theorem lay_strs : ∀ {ts : List Str}, (∀ x ∈ ts, PyData.strOk x = true) → PyData.canLayAll0 (ts.map PyData.str) = true
  | [], _ => rfl
  | x :: r, h => by
    rw [List.map_cons]
    simp only [PyData.canLayAll0, PyData.canLay0, h x List.mem_cons_self, Bool.true_and]
    exact lay_strs fun y hy => h y (List.mem_cons_of_mem _ hy)
theorem depth_strs : ∀ ts : List Str, PyData.depthAll (ts.map PyData.str) = 0
  | [] => rfl
  | x :: r => by
    rw [List.map_cons]
    simp only [PyData.depthAll, PyData.depth, depth_strs r, Nat.max_self]
theorem shaped_dSs {ts : List Str} (h : ∀ x ∈ ts, PyData.strOk x = true) : SeqAt.shaped (dSs ts) = true := by
  unfold SeqAt.shaped dSs
  simp only [PyData.canLay0, PyData.depth, lay_strs h, depth_strs]
  rfl
end PD

/-! Phrasedesk: loops over few things, turn by turn -/
namespace PD
open PySem PySem.Spec PyProof.Rows L2
def runF (g : TG) (tb : TS) (D : Ends) (G : Hp → Prop) : List V → L2.St → Hp → Prop
  | [] => fun σ H => G H ∧ D.nx σ H
  | x :: r => fun σ H => G H ∧ g x σ H fun σ2 H2 => tb { D with nx := runF g tb D G r, ct := runF g tb D G r, bk := D.nx } σ2 H2
def runL (g : TG) (tt : TT) (te : TE) (vs : List Nat) (σ : L2.St) (D : Addr) (Qd G : Hp → Prop) : List V → Hp → Prop
  | [] => fun H => G H ∧ Qd H
  | x :: r => fun H => G H ∧ g x (wipe σ vs) H fun σ2 H2 => wipe σ2 vs = wipe σ vs ∧ tt σ2 H2 fun b H3 =>
      if b = true then te σ2 H3 fun y H4 => ∃ acc, H4 D = some (.lst acc) ∧ acc.length < sizeLine ∧ runL g tt te vs σ D Qd G r (upd H4 D (.lst (acc ++ [y]))) else runL g tt te vs σ D Qd G r H3
section
variable {J : It} {xs : List V} {G : Hp → Prop} {g : TG} {tb : TS} {tt : TT} {te : TE} {vs : List Nat} {D : Ends} {σ : L2.St} {H : Hp} {A : Addr} {Qd : Hp → Prop}
theorem runF_G : ∀ (l : List V) (σ : L2.St) (H : Hp), runF g tb D G l σ H → G H
  | [], _, _, h => h.1
  | _ :: _, _, _, h => h.1
theorem runL_G : ∀ (l : List V) (H : Hp), runL g tt te vs σ A Qd G l H → G H
  | [], _, h => h.1
  | _ :: _, _, h => h.1
theorem drop_atU {i : Nat} {x : V} (h : xs[i]? = some x) : xs.drop i = x :: xs.drop (i + 1) := by
  obtain ⟨hi, e⟩ := List.getElem?_eq_some_iff.mp h
  rw [List.drop_eq_getElem_cons hi, e]
theorem for_un (w : Walk J xs.length G (YAt xs)) (h : runF g tb D G xs σ H) :
    ∃ W : Nat → Nat → L2.St → Hp → Prop, (∃ m, W 0 m σ H) ∧ ∀ i m σ H, W i m σ H →
      (J.stop i H ∧ D.nx σ H) ∨ (J.go i H ∧ ∃ N : L2.St → Hp → Prop, (∀ σ' H', N σ' H' → ∃ m', m' < m ∧ W (i + 1) m' σ' H') ∧ ∀ x H', J.yld i H x H' → g x σ H' fun σ2 H2 => tb { D with nx := N, ct := N, bk := D.nx } σ2 H2) := by
  refine for_it w (fun i σ H => runF g tb D G (xs.drop i) σ H) h (fun i σ H _ q => runF_G _ _ _ q) (fun i x σ H H' hi q y => ?_) (fun σ H q => ?_)
  · obtain ⟨rfl, e⟩ := y
    rw [drop_atU e] at q
    exact q.2
  · rw [List.drop_length] at q
    exact q.2
theorem lc_un (w : Walk J xs.length G (YAt xs)) {H1 : Hp} (h : runL g tt te vs σ A Qd G xs (upd H1 A (.lst []))) :
    ∃ W : Nat → Nat → Hp → Prop, (∃ m, W 0 m (upd H1 A (.lst []))) ∧ ∀ i m H, W i m H →
      (J.stop i H ∧ Qd H) ∨ (J.go i H ∧ ∃ Nx : Hp → Prop, (∀ H', Nx H' → ∃ m', m' < m ∧ W (i + 1) m' H') ∧ ∀ x H', J.yld i H x H' → g x (wipe σ vs) H' fun σ2 H2 => wipe σ2 vs = wipe σ vs ∧ tt σ2 H2 fun b H3 =>
        if b = true then te σ2 H3 fun y H4 => ∃ acc, H4 A = some (.lst acc) ∧ acc.length < sizeLine ∧ Nx (upd H4 A (.lst (acc ++ [y]))) else Nx H3) := by
  refine lc_it w (fun i H => runL g tt te vs σ A Qd G (xs.drop i) H) h (fun i H _ q => runL_G _ _ q) (fun i x H H' hi q y => ?_) (fun H q => ?_)
  · obtain ⟨rfl, e⟩ := y
    rw [drop_atU e] at q
    exact q.2
  · rw [List.drop_length] at q
    exact q.2
end
/-- the numbers of a range -/
def rngV (lo : Int) (n : Nat) : List V := (List.range n).map fun i => V.int (lo + (i : Nat))
theorem walk_rng {lo : Int} {n : Nat} : Walk (Itr lo n) (rngV lo n).length (fun _ => True) (YAt (rngV lo n)) := by
  have e : (rngV lo n).length = n := by unfold rngV; rw [List.length_map, List.length_range]
  refine ⟨fun i H hi h => walk_range.goes i H (by omega) h, fun H h => by rw [e]; exact walk_range.stops H h, fun i H x H' hi h y => ?_⟩
  obtain ⟨e1, e2⟩ := walk_range.yields i H x H' (by omega) h y
  refine ⟨e1, ?_⟩
  unfold rngV
  rw [List.getElem?_map, List.getElem?_range (by omega), e2]
  rfl
end PD

/-! Phrasedesk: methods that raise, and lambdas that let it out -/
namespace PD
open PySem PySem.Spec PyProof.Rows L2
/-- a method that may raise -/
structure MetX (P : Program) (w : World) (K : PySem.W.Frag) (mg : Str → Option Value) (base : Heap) (k : Nat) (C : Addr) (m : Str) (sp : Sp) : Prop where
  ex : ∃ (f : Addr) (fd : FuncData) (ps : List Str), Cls K C ∧ Meth K C m f ∧ FnOk P w K mg base (L2.CX P w) k f fd ps sp ∧ Binds K fd ps []
section
variable {P : Program} {w : World} {K : PySem.W.Frag} {mg : Str → Option Value} {base : Heap} {x qual : Str} {st : Stmt} {f : Addr} {N ps : List Str} {k : Nat} {sp : Sp}
abbrev BodyX (P : Program) (w : World) (K : PySem.W.Frag) (mg : Str → Option Value) (base : Heap) (qual : Str) (st : Stmt) (f : Addr) (N : List Str) (k : Nat) (sp : Sp) : Prop :=
  ∀ (cdv : Value) (A : Around) (outer : List Env) (s : Shared) (H : Hp) (vs : List V) (Q : VK) (E : XK), Room k (A.deeper (envOfC qual (defScope st) s.heap.objs.size f cdv)) → sp vs H Q E →
    ∃ t, PSs (cxOf (L2.CX P w) P w K mg base N qual (defScope st) f cdv A outer s H E) (defBody st) t ∧ t { nx := fun _ H' => Q .non H', rt := Q } (start N vs) H
theorem metX {C : Addr} {m : Str} (F : ∃ fd, FunD K m qual (defArgs st) (defBody st) (defScope st) [] [] f fd) (c : Cls K C) (hm : Meth K C m f) (hb : BindOk m qual st ps) (S : FnScope N ps (defScope st)) (len : ∀ vs H Q E, sp vs H Q E → vs.length = ps.length)
    (b : BodyX P w K mg base qual st f N k sp) : MetX P w K mg base (k + 1) C m sp := by
  obtain ⟨fd, F⟩ := F
  exact ⟨f, fd, ps, c, hm, F.ok S len b, F.bindsN hb⟩
end
section
variable {X : Cx} {k j : Nat} {C : Addr} {x m : Str} {sp : Sp} {E : XK} {p pos apos : Pos} {e o : Expr} {es : List Expr} {ta : TE} {t : TA}
/-- o.m(e, ..), what it raises goes out -/
theorem pe_mtX {pl : Sem Bool} (c : MetX X.prog X.w X.K X.mg X.base k C m sp) (hr : Room j X.A) (hk : k ≤ j) (tk : Takes X (fun cls d _ H => E cls d H)) (he : PE X o ta) (ha : L2.PA X (e :: es) t)
    (hst : starEach (e :: es) X.env = (false, eval e X.env) :: starEach es X.env := by rfl) (hpl : (backTo pos (starEach es X.env)).any (·.1) = false := by rfl)
    (ht : eval (.Call (.Attribute o m apos) (e :: es) [] pos) X.env = (do
      let ov ← eval o X.env
      standAt apos.atName
      let (f, first) ← holding [ov] (getMethod ov m pl)
      callWith pos f first (backTo pos (starEach (e :: es) X.env)) (backToKw pos (keywordEach [] X.env))) := by rfl) :
    PE X (.Call (.Attribute o m apos) (e :: es) [] pos) (tMeth C m sp [] E ta t) := by
  obtain ⟨f, fd, ps, hc, hm, F, b⟩ := c.ex
  exact pe_meth (pl := pl) he hc hm F (hr.mono hk) b .nil (passes_call tk fun _ _ _ _ h => h) ha hst hpl ht
/-- raise C('m') of an own class -/
theorem ps_own {C : Addr} {c msg : Str} {i : Nat} {q1 q2 q3 q4 : Pos} (fx : PySem.W.excIn X.K C He.veBase "ValueError.__new__" = true ∧ PySem.W.keepIn X.K (.ref C) = true ∧ PySem.W.subIn X.K (.ref C) (.type "BaseException") = some true ∧ PySem.W.typeIn X.K (.ref C) = some (.type "type"))
    (gC : X.mg c = some (.ref C)) (hc : X.calm = true) (tk : Takes X (fun cls d _ H => E cls d H)) (hg : Gl X c) (hdb : (c == ("__debug__" : Str)) = false := by decide) :
    PS X (.Raise (some (.Call (.Name c q1) [.Constant (.str msg) i q2] [] q3)) none q4) (fun _ σ H => E (.ref C) none H) :=
  ps_raise hc tk (pmk_own PySem.F.excBase_ValueError fx.1 gC fx.2.1 (raises_own fx.2.2.1 fx.2.2.2) hg hdb)
end
/-! ### the law itself makes lambdas -/
section
variable {P : Program} {w : World} {K : PySem.W.Frag} {mg : Str → Option Value} {base : Heap}
theorem okGT {x : Str} {params : Arguments} {body : List Stmt} {scope : Scope} {dvs : List V} {kws : List (Str × V)} {fd : FuncData} {N ps : List Str} {lv : Nat} {sp : Sp}
    (F : FunD K x x params body scope dvs kws (He.ga K x) fd) (S : FnScope N ps scope) (len : ∀ xs G Q E, sp xs G Q E → xs.length = ps.length)
    (bd : ∀ (B : Around) (fr : List Env) (z : Shared) (G : Hp) (xs : List V) (Q : VK) (E : XK), (B.deeper (envOfC x scope z.heap.objs.size (He.ga K x) (.ref (He.codeOf K (x, none))))).guards = some [] →
      Room lv (B.deeper (envOfC x scope z.heap.objs.size (He.ga K x) (.ref (He.codeOf K (x, none))))) → sp xs G Q E →
      ∃ t, PSs (cxOf CX0 P w K mg base N x scope (He.ga K x) (.ref (He.codeOf K (x, none))) B fr z G E).nox body t ∧ t { nx := fun _ G' => Q .non G', rt := Q } (start N xs) G) :
    FnG P w K mg base (lv + 1) (He.ga K x) fd ps sp := by
  obtain ⟨oc, od, dV, kV, doc, pm, an, cv, ct, sl, rfl, lk, hc, -, -⟩ := F.ex
  obtain ⟨c, rfl⟩ := He.codeIn_ref hc
  have ec : He.codeOf K (x, none) = c := He.codeOf_eq lk rfl
  rw [ec] at bd
  constructor
  · exact len
  · intro B fr z G ar us xs Q E hg hr e0 hb hv hs
    have hl := len xs G Q E hs
    have st : ∀ b o, base.get? b = some o → z.heap.get? b = some o := fun b o e => (e0.bs b o e).1
    have KZ : K.In z.heap := e0.mod.kin.keeps st
    have kinds : ∀ y ∈ ps.zip us, scope.names.lookup y.1 = some .local ∨
        (scope.names.lookup y.1 = some .cell ∧ ((cellsFrom (z.heap.objs.size + 1) scope.names []).lookup y.1).isSome = true) := by
      rintro ⟨n, v⟩ hy
      cases S.par n (List.of_mem_zip hy).1 with
      | inl q => exact .inl q
      | inr q => exact .inr ⟨q, PySem.W.cellsFrom_some _ _ _ (.inl q)⟩
    refine codeAny_call_function hr.depth (KZ _ _ lk) rfl S.co S.gen rfl (PySem.W.codeRec_of KZ hc) (hb _ _ _ _ ?_)
    refine wpAny_newFunctionEnv_cells S.kind kinds ?_
    intro env ee z1 ic
    cases ee
    refine ⟨(e0.mod.nolimit.keeps st).keeps ic.toInCall.keep, codeAny_func ?_⟩
    obtain ⟨t, ht, q⟩ := bd B fr z G xs Q E hg (hr.deeper _) hs
    have I : Inv (cxOf CX0 P w K mg base N x scope (He.ga K x) (.ref c) B fr z G E) [] (start N xs) G z1 := inv_start S hr.hd e0 hl hv ic
    refine wpAny_mono (ht.nox.run [] z1 (start N xs) G _ I q) ?_ fun e z2 h2 => h2
    intro fl z2 h2
    cases fl with
    | ret u =>
      obtain ⟨v, σ', G', J, rv, q2⟩ := h2
      exact ⟨v, G', J.os, J.bare, J.base, J.hok, rv, q2⟩
    | next =>
      obtain ⟨σ', G', J, q2⟩ := h2
      exact ⟨V.non, G', J.os, J.bare, J.base, J.hok, rfl, q2⟩
    | brk => exact h2.elim fun _ h3 => h3.elim fun _ h4 => False.elim h4.2
    | cont => exact h2.elim fun _ h3 => h3.elim fun _ h4 => False.elim h4.2
end
/-! ### try: a() / except x: return .. / except y: return .. -/
def TTried (K : PySem.W.Frag) (C1 : Addr) (r1 : Str) (C2 : Addr) (r2 : Str) : (XK → Hp → VK → Prop) → Hp → VK → Prop := fun tl H Q =>
  tl (fun cls _ H' => ∃ b, PySem.W.exmOne K cls (.ref C1) = some b ∧ (b = true → Q (.str r1) H') ∧ (b = false → ∃ b', PySem.W.exmOne K cls (.ref C2) = some b' ∧ (b' = true → Q (.str r2) H') ∧ (b' = false → False))) H fun _ H' => Q .non H'
section
variable {X : Cx}
theorem tried_gives {Ng : List Str} {x a e1 e2 q r1 r2 : Str} {sg : Scope} {g C1 C2 : Addr} {cdg : Value} {j1 j2 j3 : Nat} {p1 p2 p3 p4 p5 p6 p7 p8 p9 p10 p11 p12 p13 p14 : Pos} (hg1 : sg.names.lookup e1 = some .globalImplicit) (hm1 : X.mg e1 = some (.ref C1)) (hd1 : (e1 == ("__debug__" : Str)) = false)
    (hg2 : sg.names.lookup e2 = some .globalImplicit) (hm2 : X.mg e2 = some (.ref C2)) (hd2 : (e2 == ("__debug__" : Str)) = false) (h0 : ∀ f : Addr, (L2.start Ng [V.ref f])[0]? = some (some (V.ref f))) :
    LamX.GivesTo X Ng x sg g cdg [.Try [.Expr (.Call (.Name a p1) [] [] p2) p3] [.ExceptHandler (some (.Name e1 p4)) none [.Return (some (.Constant (.str r1) j1 p5)) p6] p7, .ExceptHandler (some (.Name e2 p8)) none [.Return (some (.Constant (.str r2) j2 p9)) p10] p11] [] [] p12, .Return (some (.Constant .none j3 p13)) p14] a q (TTried X.K C1 r1 C2 r2) := by
  intro f c' s H Q tl act hc h
  have gl1 : Gl (cxOf C8.CX0 X.prog X.w X.K X.mg X.base Ng x sg g cdg X.A X.stack s H C8.E0).nox e1 := hg1
  have gl2 : Gl (cxOf C8.CX0 X.prog X.w X.K X.mg X.base Ng x sg g cdg X.A X.stack s H C8.E0).nox e2 := hg2
  refine ⟨_, pss_cons (ps_try_many (X := (cxOf C8.CX0 X.prog X.w X.K X.mg X.base Ng x sg g cdg X.A X.stack s H C8.E0).nox)
      (tb := fun W D σ H => ∃ Ech : XK, (∀ cls d σ' H', Ech cls d H' → W cls d σ' H') ∧ σ[0]? = some (some (.ref f)) ∧ H c' = some (LamX.CodeO c' q) ∧ tl Ech H fun _ H1 => D.nx σ H1)
      rfl rfl takes_none5 (fun W pn xe tk _ => ?_) (.cons ⟨gl1, hd1, .inl hm1⟩ (fun a oe cls d pn _ _ => pss_one (ps_ret pe_str)) (.cons ⟨gl2, hd2, .inl hm2⟩ (fun a oe cls d pn _ _ => pss_one (ps_ret pe_str)) .nil))) (pss_one (ps_ret pe_non)), ?_⟩
  · refine ⟨fun pins s' σ H' D I h' => ?_⟩
    obtain ⟨Ech, hW, h1, h2, h3⟩ := h'
    have hp := act W pn xe Ech p1 p2 tk hW
    have hq := pss_one (ps_expr (pos := p3) hp)
    exact hq.run pins s' σ H' D I ⟨h1, h2, h3⟩
  · refine ⟨_, fun cls d σ' H' z => ?_, h0 f, hc, h⟩
    obtain ⟨b, e1, e2, e3⟩ := z
    refine ⟨b, e1, fun hb a _ => e2 hb, fun hb => ?_⟩
    obtain ⟨b', e4, e5, e6⟩ := e3 hb
    exact ⟨b', e4, fun hb a _ => e5 hb, fun hb => e6 hb⟩
/-- x(lambda: body), x a def of the text -/
theorem pe_lamdef {T : List (Addr × Str)} {TT : (XK → Hp → VK → Prop) → Hp → VK → Prop} {x a : Str} {g c Pt_ : Addr} {k : Nat} {st : Stmt} {Ng : List Str} {params : Arguments} {body : Expr} {scope : Scope} {t : XK → TE} {p lpos pos : Pos}
    (F : ∃ fd, FunD X.K x x (defArgs st) (defBody st) (defScope st) [] [] g fd) (hm : X.mg x = some (.ref g)) (hg : Gl X x) (hb : BindOk x x st [a]) (Sg : FnScope Ng [a] (defScope st)) (hNg : Ng[0]? = some a) (hva : Vis (defScope st) a)
    (hG : ∀ cdv : Value, LamX.GivesTo X Ng x (defScope st) g cdv (defBody st) a (X.env.qual ++ "<lambda>") TT)
    (TB : LamX.TabB X.base X.mg c Pt_) (hcode : X.env.code = .ref c) (hmT : (Pt_, X.env.qual ++ "<lambda>") ∈ T) (hu : ∀ p ∈ T, p.1 = Pt_ → p.2 = X.env.qual ++ "<lambda>") (hr : Room (k + 2) X.A) (L : LamX.LamS X.env.scope scope) (hdef : defaultsOf params X.env = ([], []))
    (hbind : ∀ (q : Str) (cl : List (Str × Addr)) (pm cv ctv : Value), bindArgs (PySem.W.kla_fn "<lambda>" q params body scope cl pm cv ctv) ⟨[], []⟩ = pure [])
    (hbody : ∀ (A : Around) (outer : List Env) (s : Shared) (H : Hp) (E : XK) (f c' : Addr), Room k (A.deeper (LamX.lamEnv X scope s.heap.objs.size f c')) → PE (LamX.lamCx X A outer s H E scope f c') body (t E))
    (hdb : (x == ("__debug__" : Str)) = false := by decide) (hd : (a == ("__debug__" : Str)) = false := by decide) (hcd : (a == ("__classdict__" : Str)) = false := by decide) :
    PE X (.Call (.Name x p) [.Lambda params body scope lpos] [] pos) (LamX.tLam T TT t) := by
  obtain ⟨fd, F⟩ := F
  have hk := F.kp
  have hbn := F.bindsN hb
  obtain ⟨oc, od, dV, kV, doc, pm, an, cv, ct, sl, rfl, lk, hc, -, -⟩ := F.ex
  exact LamX.pe_lamcall hg hm hk lk hc hbn Sg hNg hva (hG cv) TB hcode hmT hu hr L hdef hbind hbody hdb hd hcd
end
end PD

namespace PD
open PySem PySem.Spec PyProof.Rows L2
def top (i : Nat) : Stmt := PySem.Challenge.pw_phrasedesk_k02_whole_nothing_lost.main.body.getD i (.Pass ⟨0, 0, 0, 0⟩)
abbrev s_wall : Stmt := top 0
abbrev s_is_number : Stmt := top 17
abbrev s_is_count : Stmt := top 18
abbrev s_is_number_or_none : Stmt := top 19
abbrev s_is_text : Stmt := top 20
abbrev s_is_froms : Stmt := top 21
abbrev s_is_tongue : Stmt := top 22
abbrev s_put_from : Stmt := top 23
abbrev s_is_broken : Stmt := top 24
abbrev s_chain_up : Stmt := top 25
abbrev s_Past_init : Stmt := inClass (top 26) 0
abbrev s_Past_begin_phrase : Stmt := inClass (top 26) 1
abbrev s_Past_lay_down : Stmt := inClass (top 26) 2
abbrev s_Past_take_off : Stmt := inClass (top 26) 3
abbrev s_Past_has_phrase : Stmt := inClass (top 26) 4
abbrev s_Past_standing : Stmt := inClass (top 26) 5
abbrev s_Past_text_standing : Stmt := inClass (top 26) 6
abbrev s_Past_cells : Stmt := inClass (top 26) 7
abbrev s_Past_was_seen : Stmt := inClass (top 26) 8
abbrev s_Past_is_over : Stmt := inClass (top 26) 9
abbrev s_Past_can_take_off : Stmt := inClass (top 26) 10
abbrev s_Past_takes : Stmt := inClass (top 26) 11
abbrev s_Past_takes_phrase : Stmt := inClass (top 26) 12
abbrev s_Past_takes_put : Stmt := inClass (top 26) 13
abbrev s_Past_takes_back : Stmt := inClass (top 26) 14
abbrev s_Desk_init : Stmt := inClass (top 28) 0
abbrev s_Desk_phrase : Stmt := inClass (top 28) 1
abbrev s_Desk_put : Stmt := inClass (top 28) 2
abbrev s_Desk_back : Stmt := inClass (top 28) 3
abbrev s_Desk_now : Stmt := inClass (top 28) 4
abbrev s_Desk_all_put : Stmt := inClass (top 28) 5
abbrev s_Desk_row : Stmt := inClass (top 28) 6
abbrev s_Desk_old : Stmt := inClass (top 28) 7
abbrev s_Desk_likes : Stmt := inClass (top 28) 8
abbrev s_Desk_fill : Stmt := inClass (top 28) 9
abbrev s_Desk_rounds : Stmt := inClass (top 28) 10
abbrev s_Desk_tale : Stmt := inClass (top 28) 11
abbrev s_Desk_check_phrase : Stmt := inClass (top 28) 12
abbrev s_Desk_check_place : Stmt := inClass (top 28) 13
abbrev s_Desk_check_other_tongue : Stmt := inClass (top 28) 14
abbrev s_Desk_check_text : Stmt := inClass (top 28) 15
abbrev s_Desk_is_fresh : Stmt := inClass (top 28) 16
abbrev s_Desk_texts_to_fill : Stmt := inClass (top 28) 17
abbrev s_Desk_put_like : Stmt := inClass (top 28) 18
abbrev s_law_cell_at : Stmt := top 30
abbrev s_law_draw : Stmt := top 31
abbrev s_law_number : Stmt := top 32
abbrev s_law_froms : Stmt := top 33
abbrev s_law_text : Stmt := top 34
abbrev s_law_new : Stmt := top 35
abbrev s_law_now : Stmt := top 36
abbrev s_law_row : Stmt := top 37
abbrev s_law_chain : Stmt := top 38
abbrev s_law_ever : Stmt := top 39
abbrev s_law_likes : Stmt := top 40
abbrev s_law_deed : Stmt := top 41
abbrev s_law_put : Stmt := top 42
abbrev s_law_come : Stmt := top 43
abbrev s_law_do : Stmt := top 44
abbrev s_law_played : Stmt := top 45
abbrev s_law_tried : Stmt := top 46
abbrev s_law : Stmt := top 47
--HEAD
def d_wall : He.DefD := ⟨("_wall", none), "_wall", "_wall", defArgs s_wall, defBody s_wall, defScope s_wall, [], []⟩
def d_is_number : He.DefD := ⟨("is_number", none), "is_number", "is_number", defArgs s_is_number, defBody s_is_number, defScope s_is_number, [], []⟩
def d_is_count : He.DefD := ⟨("is_count", none), "is_count", "is_count", defArgs s_is_count, defBody s_is_count, defScope s_is_count, [], []⟩
def d_is_number_or_none : He.DefD := ⟨("is_number_or_none", none), "is_number_or_none", "is_number_or_none", defArgs s_is_number_or_none, defBody s_is_number_or_none, defScope s_is_number_or_none, [], []⟩
def d_is_text : He.DefD := ⟨("is_text", none), "is_text", "is_text", defArgs s_is_text, defBody s_is_text, defScope s_is_text, [], []⟩
def d_is_froms : He.DefD := ⟨("is_froms", none), "is_froms", "is_froms", defArgs s_is_froms, defBody s_is_froms, defScope s_is_froms, [], []⟩
def d_is_tongue : He.DefD := ⟨("is_tongue", none), "is_tongue", "is_tongue", defArgs s_is_tongue, defBody s_is_tongue, defScope s_is_tongue, [], []⟩
def d_put_from : He.DefD := ⟨("put_from", none), "put_from", "put_from", defArgs s_put_from, defBody s_put_from, defScope s_put_from, [], []⟩
def d_is_broken : He.DefD := ⟨("is_broken", none), "is_broken", "is_broken", defArgs s_is_broken, defBody s_is_broken, defScope s_is_broken, [], []⟩
def d_chain_up : He.DefD := ⟨("chain_up", none), "chain_up", "chain_up", defArgs s_chain_up, defBody s_chain_up, defScope s_chain_up, [], []⟩
def d_Past_init : He.DefD := ⟨("Past", some "__init__"), "__init__", "Past.__init__", defArgs s_Past_init, defBody s_Past_init, defScope s_Past_init, [], []⟩
def d_Past_begin_phrase : He.DefD := ⟨("Past", some "begin_phrase"), "begin_phrase", "Past.begin_phrase", defArgs s_Past_begin_phrase, defBody s_Past_begin_phrase, defScope s_Past_begin_phrase, [], []⟩
def d_Past_lay_down : He.DefD := ⟨("Past", some "lay_down"), "lay_down", "Past.lay_down", defArgs s_Past_lay_down, defBody s_Past_lay_down, defScope s_Past_lay_down, [], []⟩
def d_Past_take_off : He.DefD := ⟨("Past", some "take_off"), "take_off", "Past.take_off", defArgs s_Past_take_off, defBody s_Past_take_off, defScope s_Past_take_off, [], []⟩
def d_Past_has_phrase : He.DefD := ⟨("Past", some "has_phrase"), "has_phrase", "Past.has_phrase", defArgs s_Past_has_phrase, defBody s_Past_has_phrase, defScope s_Past_has_phrase, [], []⟩
def d_Past_standing : He.DefD := ⟨("Past", some "standing"), "standing", "Past.standing", defArgs s_Past_standing, defBody s_Past_standing, defScope s_Past_standing, [], []⟩
def d_Past_text_standing : He.DefD := ⟨("Past", some "text_standing"), "text_standing", "Past.text_standing", defArgs s_Past_text_standing, defBody s_Past_text_standing, defScope s_Past_text_standing, [], []⟩
def d_Past_cells : He.DefD := ⟨("Past", some "cells"), "cells", "Past.cells", defArgs s_Past_cells, defBody s_Past_cells, defScope s_Past_cells, [], []⟩
def d_Past_was_seen : He.DefD := ⟨("Past", some "was_seen"), "was_seen", "Past.was_seen", defArgs s_Past_was_seen, defBody s_Past_was_seen, defScope s_Past_was_seen, [], []⟩
def d_Past_is_over : He.DefD := ⟨("Past", some "is_over"), "is_over", "Past.is_over", defArgs s_Past_is_over, defBody s_Past_is_over, defScope s_Past_is_over, [], []⟩
def d_Past_can_take_off : He.DefD := ⟨("Past", some "can_take_off"), "can_take_off", "Past.can_take_off", defArgs s_Past_can_take_off, defBody s_Past_can_take_off, defScope s_Past_can_take_off, [], []⟩
def d_Past_takes : He.DefD := ⟨("Past", some "takes"), "takes", "Past.takes", defArgs s_Past_takes, defBody s_Past_takes, defScope s_Past_takes, [], []⟩
def d_Past_takes_phrase : He.DefD := ⟨("Past", some "takes_phrase"), "takes_phrase", "Past.takes_phrase", defArgs s_Past_takes_phrase, defBody s_Past_takes_phrase, defScope s_Past_takes_phrase, [], []⟩
def d_Past_takes_put : He.DefD := ⟨("Past", some "takes_put"), "takes_put", "Past.takes_put", defArgs s_Past_takes_put, defBody s_Past_takes_put, defScope s_Past_takes_put, [], []⟩
def d_Past_takes_back : He.DefD := ⟨("Past", some "takes_back"), "takes_back", "Past.takes_back", defArgs s_Past_takes_back, defBody s_Past_takes_back, defScope s_Past_takes_back, [], []⟩
def d_Desk_init : He.DefD := ⟨("Desk", some "__init__"), "__init__", "Desk.__init__", defArgs s_Desk_init, defBody s_Desk_init, defScope s_Desk_init, [], []⟩
def d_Desk_phrase : He.DefD := ⟨("Desk", some "phrase"), "phrase", "Desk.phrase", defArgs s_Desk_phrase, defBody s_Desk_phrase, defScope s_Desk_phrase, [], []⟩
def d_Desk_put : He.DefD := ⟨("Desk", some "put"), "put", "Desk.put", defArgs s_Desk_put, defBody s_Desk_put, defScope s_Desk_put, [], []⟩
def d_Desk_back : He.DefD := ⟨("Desk", some "back"), "back", "Desk.back", defArgs s_Desk_back, defBody s_Desk_back, defScope s_Desk_back, [], []⟩
def d_Desk_now : He.DefD := ⟨("Desk", some "now"), "now", "Desk.now", defArgs s_Desk_now, defBody s_Desk_now, defScope s_Desk_now, [], []⟩
def d_Desk_all_put : He.DefD := ⟨("Desk", some "all_put"), "all_put", "Desk.all_put", defArgs s_Desk_all_put, defBody s_Desk_all_put, defScope s_Desk_all_put, [], []⟩
def d_Desk_row : He.DefD := ⟨("Desk", some "row"), "row", "Desk.row", defArgs s_Desk_row, defBody s_Desk_row, defScope s_Desk_row, [], []⟩
def d_Desk_old : He.DefD := ⟨("Desk", some "old"), "old", "Desk.old", defArgs s_Desk_old, defBody s_Desk_old, defScope s_Desk_old, [], []⟩
def d_Desk_likes : He.DefD := ⟨("Desk", some "likes"), "likes", "Desk.likes", defArgs s_Desk_likes, defBody s_Desk_likes, defScope s_Desk_likes, [], []⟩
def d_Desk_fill : He.DefD := ⟨("Desk", some "fill"), "fill", "Desk.fill", defArgs s_Desk_fill, defBody s_Desk_fill, defScope s_Desk_fill, [], []⟩
def d_Desk_rounds : He.DefD := ⟨("Desk", some "rounds"), "rounds", "Desk.rounds", defArgs s_Desk_rounds, defBody s_Desk_rounds, defScope s_Desk_rounds, [], []⟩
def d_Desk_tale : He.DefD := ⟨("Desk", some "tale"), "tale", "Desk.tale", defArgs s_Desk_tale, defBody s_Desk_tale, defScope s_Desk_tale, [], []⟩
def d_Desk_check_phrase : He.DefD := ⟨("Desk", some "check_phrase"), "check_phrase", "Desk.check_phrase", defArgs s_Desk_check_phrase, defBody s_Desk_check_phrase, defScope s_Desk_check_phrase, [], []⟩
def d_Desk_check_place : He.DefD := ⟨("Desk", some "check_place"), "check_place", "Desk.check_place", defArgs s_Desk_check_place, defBody s_Desk_check_place, defScope s_Desk_check_place, [], []⟩
def d_Desk_check_other_tongue : He.DefD := ⟨("Desk", some "check_other_tongue"), "check_other_tongue", "Desk.check_other_tongue", defArgs s_Desk_check_other_tongue, defBody s_Desk_check_other_tongue, defScope s_Desk_check_other_tongue, [], []⟩
def d_Desk_check_text : He.DefD := ⟨("Desk", some "check_text"), "check_text", "Desk.check_text", defArgs s_Desk_check_text, defBody s_Desk_check_text, defScope s_Desk_check_text, [], []⟩
def d_Desk_is_fresh : He.DefD := ⟨("Desk", some "is_fresh"), "is_fresh", "Desk.is_fresh", defArgs s_Desk_is_fresh, defBody s_Desk_is_fresh, defScope s_Desk_is_fresh, [], []⟩
def d_Desk_texts_to_fill : He.DefD := ⟨("Desk", some "texts_to_fill"), "texts_to_fill", "Desk.texts_to_fill", defArgs s_Desk_texts_to_fill, defBody s_Desk_texts_to_fill, defScope s_Desk_texts_to_fill, [], []⟩
def d_Desk_put_like : He.DefD := ⟨("Desk", some "put_like"), "put_like", "Desk.put_like", defArgs s_Desk_put_like, defBody s_Desk_put_like, defScope s_Desk_put_like, [], []⟩
def d_law_cell_at : He.DefD := ⟨("_law_cell_at", none), "_law_cell_at", "_law_cell_at", defArgs s_law_cell_at, defBody s_law_cell_at, defScope s_law_cell_at, [], []⟩
def d_law_draw : He.DefD := ⟨("_law_draw", none), "_law_draw", "_law_draw", defArgs s_law_draw, defBody s_law_draw, defScope s_law_draw, [], []⟩
def d_law_number : He.DefD := ⟨("_law_number", none), "_law_number", "_law_number", defArgs s_law_number, defBody s_law_number, defScope s_law_number, [], []⟩
def d_law_froms : He.DefD := ⟨("_law_froms", none), "_law_froms", "_law_froms", defArgs s_law_froms, defBody s_law_froms, defScope s_law_froms, [], []⟩
def d_law_text : He.DefD := ⟨("_law_text", none), "_law_text", "_law_text", defArgs s_law_text, defBody s_law_text, defScope s_law_text, [], []⟩
def d_law_new : He.DefD := ⟨("_law_new", none), "_law_new", "_law_new", defArgs s_law_new, defBody s_law_new, defScope s_law_new, [], []⟩
def d_law_now : He.DefD := ⟨("_law_now", none), "_law_now", "_law_now", defArgs s_law_now, defBody s_law_now, defScope s_law_now, [], []⟩
def d_law_row : He.DefD := ⟨("_law_row", none), "_law_row", "_law_row", defArgs s_law_row, defBody s_law_row, defScope s_law_row, [], []⟩
def d_law_chain : He.DefD := ⟨("_law_chain", none), "_law_chain", "_law_chain", defArgs s_law_chain, defBody s_law_chain, defScope s_law_chain, [], []⟩
def d_law_ever : He.DefD := ⟨("_law_ever", none), "_law_ever", "_law_ever", defArgs s_law_ever, defBody s_law_ever, defScope s_law_ever, [], []⟩
def d_law_likes : He.DefD := ⟨("_law_likes", none), "_law_likes", "_law_likes", defArgs s_law_likes, defBody s_law_likes, defScope s_law_likes, [], []⟩
def d_law_deed : He.DefD := ⟨("_law_deed", none), "_law_deed", "_law_deed", defArgs s_law_deed, defBody s_law_deed, defScope s_law_deed, [], []⟩
def d_law_put : He.DefD := ⟨("_law_put", none), "_law_put", "_law_put", defArgs s_law_put, defBody s_law_put, defScope s_law_put, [], []⟩
def d_law_come : He.DefD := ⟨("_law_come", none), "_law_come", "_law_come", defArgs s_law_come, defBody s_law_come, defScope s_law_come, [], []⟩
def d_law_do : He.DefD := ⟨("_law_do", none), "_law_do", "_law_do", defArgs s_law_do, defBody s_law_do, defScope s_law_do, [], []⟩
def d_law_played : He.DefD := ⟨("_law_played", none), "_law_played", "_law_played", defArgs s_law_played, defBody s_law_played, defScope s_law_played, [], []⟩
def d_law_tried : He.DefD := ⟨("_law_tried", none), "_law_tried", "_law_tried", defArgs s_law_tried, defBody s_law_tried, defScope s_law_tried, [], []⟩
def d_law : He.DefD := ⟨("law", none), "law", "law", defArgs s_law, defBody s_law, defScope s_law, [], []⟩
def fn : List He.DefD := [d_wall, d_is_number, d_is_count, d_is_number_or_none, d_is_text, d_is_froms, d_is_tongue, d_put_from, d_is_broken, d_chain_up, d_Past_init, d_Past_begin_phrase, d_Past_lay_down, d_Past_take_off, d_Past_has_phrase, d_Past_standing, d_Past_text_standing, d_Past_cells, d_Past_was_seen, d_Past_is_over, d_Past_can_take_off, d_Past_takes, d_Past_takes_phrase, d_Past_takes_put, d_Past_takes_back, d_Desk_init, d_Desk_phrase, d_Desk_put, d_Desk_back, d_Desk_now, d_Desk_all_put, d_Desk_row, d_Desk_old, d_Desk_likes, d_Desk_fill, d_Desk_rounds, d_Desk_tale, d_Desk_check_phrase, d_Desk_check_place, d_Desk_check_other_tongue, d_Desk_check_text, d_Desk_is_fresh, d_Desk_texts_to_fill, d_Desk_put_like, d_law_cell_at, d_law_draw, d_law_number, d_law_froms, d_law_text, d_law_new, d_law_now, d_law_row, d_law_chain, d_law_ever, d_law_likes, d_law_deed, d_law_put, d_law_come, d_law_do, d_law_played, d_law_tried, d_law]
def fa0 : List He.Fa := [.glo "_wall", .glo "is_number", .glo "is_count", .glo "is_number_or_none", .glo "is_text", .glo "is_froms", .glo "is_tongue", .glo "put_from", .glo "is_broken", .glo "chain_up", .glo "_law_cell_at", .glo "_law_draw", .glo "_law_number", .glo "_law_froms", .glo "_law_text", .glo "_law_new", .glo "_law_now", .glo "_law_row", .glo "_law_chain", .glo "_law_ever", .glo "_law_likes", .glo "_law_deed", .glo "_law_put", .glo "_law_come", .glo "_law_do", .glo "_law_played", .glo "_law_tried", .glo "law", .int "FEWEST_TONGUES" 2, .int "MOST_TONGUES" 8]
def fa1 : List He.Fa := [.int "MOST_PHRASES" 6, .int "MOST_LETTERS" 6, .str "LETTERS" "abcdefghijklmnopqrstuvwxyz", .free "all", .free "bool", .free "enumerate", .free "int", .free "isinstance", .free "len", .free "list", .free "range", .free "set", .free "sorted", .free "str", .glo "Past", .cls "Past", .meth "Past" "begin_phrase", .meth "Past" "lay_down", .meth "Past" "take_off", .meth "Past" "has_phrase", .meth "Past" "standing", .meth "Past" "text_standing", .meth "Past" "cells", .meth "Past" "was_seen", .meth "Past" "is_over", .meth "Past" "can_take_off", .meth "Past" "takes", .meth "Past" "takes_phrase", .meth "Past" "takes_put", .meth "Past" "takes_back"]
def fa2 : List He.Fa := [.mkr "Past", .glo "Desk", .cls "Desk", .meth "Desk" "phrase", .meth "Desk" "put", .meth "Desk" "back", .meth "Desk" "now", .meth "Desk" "all_put", .meth "Desk" "row", .meth "Desk" "old", .meth "Desk" "likes", .meth "Desk" "fill", .meth "Desk" "rounds", .meth "Desk" "tale", .meth "Desk" "check_phrase", .meth "Desk" "check_place", .meth "Desk" "check_other_tongue", .meth "Desk" "check_text", .meth "Desk" "is_fresh", .meth "Desk" "texts_to_fill", .meth "Desk" "put_like", .mkr "Desk", .noat "Past" "ever", .noat "Past" "froms", .noat "Past" "origins", .noat "Past" "phrases", .noat "Past" "piles", .noat "Past" "texts", .noat "Desk" "lines", .noat "Desk" "past"]
def fa3 : List He.Fa := [.glo "PhraseError", .exc "PhraseError", .glo "BadFroms", .exc "BadFroms", .glo "BadPhrase", .exc "BadPhrase", .glo "BadTongue", .exc "BadTongue", .glo "BadText", .exc "BadText", .glo "BadSeen", .exc "BadSeen", .glo "Overtaken", .exc "Overtaken", .glo "Nothing", .exc "Nothing", .glo "TooMany", .exc "TooMany"]
def fa : List He.Fa := fa0 ++ fa1 ++ fa2 ++ fa3
def insB (K : PySem.W.Frag) (x : Str) : Bool := He.eqO (PySem.W.findIn K (.ref (He.ga K x)) "__class__") (some (some (.builtin "object.__class__"))) && (decide (PySem.W.mroIn K (He.ga K x) (.type "object") = some true) && (He.eqO (PySem.W.specialIn K (.builtin "object.__class__") "__get__") (some (some (.builtin "getset_descriptor.__get__"))) && decide (PySem.W.takesIn K (.builtin "object.__class__") = some true)))
def isB (K : PySem.W.Frag) (x y : Str) (b : Bool) : Bool := decide (PySem.W.kitOne K (.ref (He.ga K x)) (.ref (He.ga K y)) = some b)
def bareB (K : PySem.W.Frag) (x : Str) : Bool := PySem.W.makesIn K (He.ga K x) && (He.eqO (PySem.W.findIn K (.ref (He.ga K x)) "__init__") (some (some (.builtin "object.__init__"))) && PySem.W.keepIn K (.ref (He.ga K x)))
def tfs : List He.Defn := [("law", none)]
def exs (K : PySem.W.Frag) : List Bool := [insB K "Past", isB K "Past" "Past" true, isB K "Past" "Desk" false, insB K "Desk", isB K "Desk" "Past" false, isB K "Desk" "Desk" true, decide (PySem.W.exmOne K (.ref (He.ga K "Overtaken")) (.ref (He.ga K "Overtaken")) = some true), decide (PySem.W.exmOne K (.ref (He.ga K "Overtaken")) (.ref (He.ga K "Nothing")) = some false), decide (PySem.W.exmOne K (.ref (He.ga K "Nothing")) (.ref (He.ga K "Overtaken")) = some false), decide (PySem.W.exmOne K (.ref (He.ga K "Nothing")) (.ref (He.ga K "Nothing")) = some true)]
def ex (K : PySem.W.Frag) : Bool := (exs K).all id
abbrev R : PySem.W.OpenRow := PySem.W.OpenLaw.row PySem.Challenge.rw_phrasedesk_k02_whole_nothing_lost
abbrev hk : PySem.W.Hook := He.hookX 5 fa fn [] tfs ex
def ob (s : PySem.W.SharedT) : He.AlX := He.obsX 5 fa fn [] tfs ex (HandSHeadRun.getT s)
theorem ob_eq (s : PySem.W.SharedT) : ob s = hk.obs s.abs := He.obsX_eq (HandSHeadRun.getT_eq s)
def loose0 : List Str := ["_wall", "PhraseError", "BadFroms", "BadPhrase", "BadTongue", "BadText", "BadSeen", "Overtaken", "Nothing", "TooMany", "FEWEST_TONGUES", "MOST_TONGUES", "MOST_PHRASES", "MOST_LETTERS", "LETTERS", "is_number", "is_count", "is_number_or_none", "is_text", "is_froms", "is_tongue", "put_from", "is_broken", "chain_up", "Past", "Desk", "_law_cell_at", "_law_draw", "_law_number", "_law_froms"]
def loose1 : List Str := ["_law_text", "_law_new", "_law_now", "_law_row", "_law_chain", "_law_ever", "_law_likes", "_law_deed", "_law_put", "_law_come", "_law_do", "_law_played", "_law_tried"]
def loose : List Str := loose0 ++ loose1
theorem run (w : World) : HandSHeadRun.RunEq R (PySem.W.view R.prog [47]) hk ob 6000 loose w := by
  intro os
  kernel_rfl
abbrev lamName (x : Str) : Str := x ++ ".<locals>." ++ "<lambda>"
abbrev tbs (K : PySem.W.Frag) : List (Addr × Str) := [((He.cT K ("law", none)).2, lamName "law")]
structure Tb (K : PySem.W.Frag) (mg : Str → Option Value) (base : Heap) : Prop where
  tb_law : LamX.TabB base mg (He.codeOf K ("law", none)) (He.cT K ("law", none)).2
--TX
structure Tx (K : PySem.W.Frag) (mg : Str → Option Value) : Prop where
  F_wall : ∃ fd, FunD K "_wall" "_wall" (defArgs s_wall) (defBody s_wall) (defScope s_wall) [] [] (He.ga K "_wall") fd
  g_wall : mg "_wall" = some (.ref (He.ga K "_wall"))
  F_is_number : ∃ fd, FunD K "is_number" "is_number" (defArgs s_is_number) (defBody s_is_number) (defScope s_is_number) [] [] (He.ga K "is_number") fd
  g_is_number : mg "is_number" = some (.ref (He.ga K "is_number"))
  F_is_count : ∃ fd, FunD K "is_count" "is_count" (defArgs s_is_count) (defBody s_is_count) (defScope s_is_count) [] [] (He.ga K "is_count") fd
  g_is_count : mg "is_count" = some (.ref (He.ga K "is_count"))
  F_is_number_or_none : ∃ fd, FunD K "is_number_or_none" "is_number_or_none" (defArgs s_is_number_or_none) (defBody s_is_number_or_none) (defScope s_is_number_or_none) [] [] (He.ga K "is_number_or_none") fd
  g_is_number_or_none : mg "is_number_or_none" = some (.ref (He.ga K "is_number_or_none"))
  F_is_text : ∃ fd, FunD K "is_text" "is_text" (defArgs s_is_text) (defBody s_is_text) (defScope s_is_text) [] [] (He.ga K "is_text") fd
  g_is_text : mg "is_text" = some (.ref (He.ga K "is_text"))
  F_is_froms : ∃ fd, FunD K "is_froms" "is_froms" (defArgs s_is_froms) (defBody s_is_froms) (defScope s_is_froms) [] [] (He.ga K "is_froms") fd
  g_is_froms : mg "is_froms" = some (.ref (He.ga K "is_froms"))
  F_is_tongue : ∃ fd, FunD K "is_tongue" "is_tongue" (defArgs s_is_tongue) (defBody s_is_tongue) (defScope s_is_tongue) [] [] (He.ga K "is_tongue") fd
  g_is_tongue : mg "is_tongue" = some (.ref (He.ga K "is_tongue"))
  F_put_from : ∃ fd, FunD K "put_from" "put_from" (defArgs s_put_from) (defBody s_put_from) (defScope s_put_from) [] [] (He.ga K "put_from") fd
  g_put_from : mg "put_from" = some (.ref (He.ga K "put_from"))
  F_is_broken : ∃ fd, FunD K "is_broken" "is_broken" (defArgs s_is_broken) (defBody s_is_broken) (defScope s_is_broken) [] [] (He.ga K "is_broken") fd
  g_is_broken : mg "is_broken" = some (.ref (He.ga K "is_broken"))
  F_chain_up : ∃ fd, FunD K "chain_up" "chain_up" (defArgs s_chain_up) (defBody s_chain_up) (defScope s_chain_up) [] [] (He.ga K "chain_up") fd
  g_chain_up : mg "chain_up" = some (.ref (He.ga K "chain_up"))
  F_Past_init : ∃ fd, FunD K "__init__" "Past.__init__" (defArgs s_Past_init) (defBody s_Past_init) (defScope s_Past_init) [] [] (He.ma K (He.ga K "Past") "__init__") fd
  F_Past_begin_phrase : ∃ fd, FunD K "begin_phrase" "Past.begin_phrase" (defArgs s_Past_begin_phrase) (defBody s_Past_begin_phrase) (defScope s_Past_begin_phrase) [] [] (He.ma K (He.ga K "Past") "begin_phrase") fd
  F_Past_lay_down : ∃ fd, FunD K "lay_down" "Past.lay_down" (defArgs s_Past_lay_down) (defBody s_Past_lay_down) (defScope s_Past_lay_down) [] [] (He.ma K (He.ga K "Past") "lay_down") fd
  F_Past_take_off : ∃ fd, FunD K "take_off" "Past.take_off" (defArgs s_Past_take_off) (defBody s_Past_take_off) (defScope s_Past_take_off) [] [] (He.ma K (He.ga K "Past") "take_off") fd
  F_Past_has_phrase : ∃ fd, FunD K "has_phrase" "Past.has_phrase" (defArgs s_Past_has_phrase) (defBody s_Past_has_phrase) (defScope s_Past_has_phrase) [] [] (He.ma K (He.ga K "Past") "has_phrase") fd
  F_Past_standing : ∃ fd, FunD K "standing" "Past.standing" (defArgs s_Past_standing) (defBody s_Past_standing) (defScope s_Past_standing) [] [] (He.ma K (He.ga K "Past") "standing") fd
  F_Past_text_standing : ∃ fd, FunD K "text_standing" "Past.text_standing" (defArgs s_Past_text_standing) (defBody s_Past_text_standing) (defScope s_Past_text_standing) [] [] (He.ma K (He.ga K "Past") "text_standing") fd
  F_Past_cells : ∃ fd, FunD K "cells" "Past.cells" (defArgs s_Past_cells) (defBody s_Past_cells) (defScope s_Past_cells) [] [] (He.ma K (He.ga K "Past") "cells") fd
  F_Past_was_seen : ∃ fd, FunD K "was_seen" "Past.was_seen" (defArgs s_Past_was_seen) (defBody s_Past_was_seen) (defScope s_Past_was_seen) [] [] (He.ma K (He.ga K "Past") "was_seen") fd
  F_Past_is_over : ∃ fd, FunD K "is_over" "Past.is_over" (defArgs s_Past_is_over) (defBody s_Past_is_over) (defScope s_Past_is_over) [] [] (He.ma K (He.ga K "Past") "is_over") fd
  F_Past_can_take_off : ∃ fd, FunD K "can_take_off" "Past.can_take_off" (defArgs s_Past_can_take_off) (defBody s_Past_can_take_off) (defScope s_Past_can_take_off) [] [] (He.ma K (He.ga K "Past") "can_take_off") fd
  F_Past_takes : ∃ fd, FunD K "takes" "Past.takes" (defArgs s_Past_takes) (defBody s_Past_takes) (defScope s_Past_takes) [] [] (He.ma K (He.ga K "Past") "takes") fd
  F_Past_takes_phrase : ∃ fd, FunD K "takes_phrase" "Past.takes_phrase" (defArgs s_Past_takes_phrase) (defBody s_Past_takes_phrase) (defScope s_Past_takes_phrase) [] [] (He.ma K (He.ga K "Past") "takes_phrase") fd
  F_Past_takes_put : ∃ fd, FunD K "takes_put" "Past.takes_put" (defArgs s_Past_takes_put) (defBody s_Past_takes_put) (defScope s_Past_takes_put) [] [] (He.ma K (He.ga K "Past") "takes_put") fd
  F_Past_takes_back : ∃ fd, FunD K "takes_back" "Past.takes_back" (defArgs s_Past_takes_back) (defBody s_Past_takes_back) (defScope s_Past_takes_back) [] [] (He.ma K (He.ga K "Past") "takes_back") fd
  F_Desk_init : ∃ fd, FunD K "__init__" "Desk.__init__" (defArgs s_Desk_init) (defBody s_Desk_init) (defScope s_Desk_init) [] [] (He.ma K (He.ga K "Desk") "__init__") fd
  F_Desk_phrase : ∃ fd, FunD K "phrase" "Desk.phrase" (defArgs s_Desk_phrase) (defBody s_Desk_phrase) (defScope s_Desk_phrase) [] [] (He.ma K (He.ga K "Desk") "phrase") fd
  F_Desk_put : ∃ fd, FunD K "put" "Desk.put" (defArgs s_Desk_put) (defBody s_Desk_put) (defScope s_Desk_put) [] [] (He.ma K (He.ga K "Desk") "put") fd
  F_Desk_back : ∃ fd, FunD K "back" "Desk.back" (defArgs s_Desk_back) (defBody s_Desk_back) (defScope s_Desk_back) [] [] (He.ma K (He.ga K "Desk") "back") fd
  F_Desk_now : ∃ fd, FunD K "now" "Desk.now" (defArgs s_Desk_now) (defBody s_Desk_now) (defScope s_Desk_now) [] [] (He.ma K (He.ga K "Desk") "now") fd
  F_Desk_all_put : ∃ fd, FunD K "all_put" "Desk.all_put" (defArgs s_Desk_all_put) (defBody s_Desk_all_put) (defScope s_Desk_all_put) [] [] (He.ma K (He.ga K "Desk") "all_put") fd
  F_Desk_row : ∃ fd, FunD K "row" "Desk.row" (defArgs s_Desk_row) (defBody s_Desk_row) (defScope s_Desk_row) [] [] (He.ma K (He.ga K "Desk") "row") fd
  F_Desk_old : ∃ fd, FunD K "old" "Desk.old" (defArgs s_Desk_old) (defBody s_Desk_old) (defScope s_Desk_old) [] [] (He.ma K (He.ga K "Desk") "old") fd
  F_Desk_likes : ∃ fd, FunD K "likes" "Desk.likes" (defArgs s_Desk_likes) (defBody s_Desk_likes) (defScope s_Desk_likes) [] [] (He.ma K (He.ga K "Desk") "likes") fd
  F_Desk_fill : ∃ fd, FunD K "fill" "Desk.fill" (defArgs s_Desk_fill) (defBody s_Desk_fill) (defScope s_Desk_fill) [] [] (He.ma K (He.ga K "Desk") "fill") fd
  F_Desk_rounds : ∃ fd, FunD K "rounds" "Desk.rounds" (defArgs s_Desk_rounds) (defBody s_Desk_rounds) (defScope s_Desk_rounds) [] [] (He.ma K (He.ga K "Desk") "rounds") fd
  F_Desk_tale : ∃ fd, FunD K "tale" "Desk.tale" (defArgs s_Desk_tale) (defBody s_Desk_tale) (defScope s_Desk_tale) [] [] (He.ma K (He.ga K "Desk") "tale") fd
  F_Desk_check_phrase : ∃ fd, FunD K "check_phrase" "Desk.check_phrase" (defArgs s_Desk_check_phrase) (defBody s_Desk_check_phrase) (defScope s_Desk_check_phrase) [] [] (He.ma K (He.ga K "Desk") "check_phrase") fd
  F_Desk_check_place : ∃ fd, FunD K "check_place" "Desk.check_place" (defArgs s_Desk_check_place) (defBody s_Desk_check_place) (defScope s_Desk_check_place) [] [] (He.ma K (He.ga K "Desk") "check_place") fd
  F_Desk_check_other_tongue : ∃ fd, FunD K "check_other_tongue" "Desk.check_other_tongue" (defArgs s_Desk_check_other_tongue) (defBody s_Desk_check_other_tongue) (defScope s_Desk_check_other_tongue) [] [] (He.ma K (He.ga K "Desk") "check_other_tongue") fd
  F_Desk_check_text : ∃ fd, FunD K "check_text" "Desk.check_text" (defArgs s_Desk_check_text) (defBody s_Desk_check_text) (defScope s_Desk_check_text) [] [] (He.ma K (He.ga K "Desk") "check_text") fd
  F_Desk_is_fresh : ∃ fd, FunD K "is_fresh" "Desk.is_fresh" (defArgs s_Desk_is_fresh) (defBody s_Desk_is_fresh) (defScope s_Desk_is_fresh) [] [] (He.ma K (He.ga K "Desk") "is_fresh") fd
  F_Desk_texts_to_fill : ∃ fd, FunD K "texts_to_fill" "Desk.texts_to_fill" (defArgs s_Desk_texts_to_fill) (defBody s_Desk_texts_to_fill) (defScope s_Desk_texts_to_fill) [] [] (He.ma K (He.ga K "Desk") "texts_to_fill") fd
  F_Desk_put_like : ∃ fd, FunD K "put_like" "Desk.put_like" (defArgs s_Desk_put_like) (defBody s_Desk_put_like) (defScope s_Desk_put_like) [] [] (He.ma K (He.ga K "Desk") "put_like") fd
  F_law_cell_at : ∃ fd, FunD K "_law_cell_at" "_law_cell_at" (defArgs s_law_cell_at) (defBody s_law_cell_at) (defScope s_law_cell_at) [] [] (He.ga K "_law_cell_at") fd
  g_law_cell_at : mg "_law_cell_at" = some (.ref (He.ga K "_law_cell_at"))
  F_law_draw : ∃ fd, FunD K "_law_draw" "_law_draw" (defArgs s_law_draw) (defBody s_law_draw) (defScope s_law_draw) [] [] (He.ga K "_law_draw") fd
  g_law_draw : mg "_law_draw" = some (.ref (He.ga K "_law_draw"))
  F_law_number : ∃ fd, FunD K "_law_number" "_law_number" (defArgs s_law_number) (defBody s_law_number) (defScope s_law_number) [] [] (He.ga K "_law_number") fd
  g_law_number : mg "_law_number" = some (.ref (He.ga K "_law_number"))
  F_law_froms : ∃ fd, FunD K "_law_froms" "_law_froms" (defArgs s_law_froms) (defBody s_law_froms) (defScope s_law_froms) [] [] (He.ga K "_law_froms") fd
  g_law_froms : mg "_law_froms" = some (.ref (He.ga K "_law_froms"))
  F_law_text : ∃ fd, FunD K "_law_text" "_law_text" (defArgs s_law_text) (defBody s_law_text) (defScope s_law_text) [] [] (He.ga K "_law_text") fd
  g_law_text : mg "_law_text" = some (.ref (He.ga K "_law_text"))
  F_law_new : ∃ fd, FunD K "_law_new" "_law_new" (defArgs s_law_new) (defBody s_law_new) (defScope s_law_new) [] [] (He.ga K "_law_new") fd
  g_law_new : mg "_law_new" = some (.ref (He.ga K "_law_new"))
  F_law_now : ∃ fd, FunD K "_law_now" "_law_now" (defArgs s_law_now) (defBody s_law_now) (defScope s_law_now) [] [] (He.ga K "_law_now") fd
  g_law_now : mg "_law_now" = some (.ref (He.ga K "_law_now"))
  F_law_row : ∃ fd, FunD K "_law_row" "_law_row" (defArgs s_law_row) (defBody s_law_row) (defScope s_law_row) [] [] (He.ga K "_law_row") fd
  g_law_row : mg "_law_row" = some (.ref (He.ga K "_law_row"))
  F_law_chain : ∃ fd, FunD K "_law_chain" "_law_chain" (defArgs s_law_chain) (defBody s_law_chain) (defScope s_law_chain) [] [] (He.ga K "_law_chain") fd
  g_law_chain : mg "_law_chain" = some (.ref (He.ga K "_law_chain"))
  F_law_ever : ∃ fd, FunD K "_law_ever" "_law_ever" (defArgs s_law_ever) (defBody s_law_ever) (defScope s_law_ever) [] [] (He.ga K "_law_ever") fd
  g_law_ever : mg "_law_ever" = some (.ref (He.ga K "_law_ever"))
  F_law_likes : ∃ fd, FunD K "_law_likes" "_law_likes" (defArgs s_law_likes) (defBody s_law_likes) (defScope s_law_likes) [] [] (He.ga K "_law_likes") fd
  g_law_likes : mg "_law_likes" = some (.ref (He.ga K "_law_likes"))
  F_law_deed : ∃ fd, FunD K "_law_deed" "_law_deed" (defArgs s_law_deed) (defBody s_law_deed) (defScope s_law_deed) [] [] (He.ga K "_law_deed") fd
  g_law_deed : mg "_law_deed" = some (.ref (He.ga K "_law_deed"))
  F_law_put : ∃ fd, FunD K "_law_put" "_law_put" (defArgs s_law_put) (defBody s_law_put) (defScope s_law_put) [] [] (He.ga K "_law_put") fd
  g_law_put : mg "_law_put" = some (.ref (He.ga K "_law_put"))
  F_law_come : ∃ fd, FunD K "_law_come" "_law_come" (defArgs s_law_come) (defBody s_law_come) (defScope s_law_come) [] [] (He.ga K "_law_come") fd
  g_law_come : mg "_law_come" = some (.ref (He.ga K "_law_come"))
  F_law_do : ∃ fd, FunD K "_law_do" "_law_do" (defArgs s_law_do) (defBody s_law_do) (defScope s_law_do) [] [] (He.ga K "_law_do") fd
  g_law_do : mg "_law_do" = some (.ref (He.ga K "_law_do"))
  F_law_played : ∃ fd, FunD K "_law_played" "_law_played" (defArgs s_law_played) (defBody s_law_played) (defScope s_law_played) [] [] (He.ga K "_law_played") fd
  g_law_played : mg "_law_played" = some (.ref (He.ga K "_law_played"))
  F_law_tried : ∃ fd, FunD K "_law_tried" "_law_tried" (defArgs s_law_tried) (defBody s_law_tried) (defScope s_law_tried) [] [] (He.ga K "_law_tried") fd
  g_law_tried : mg "_law_tried" = some (.ref (He.ga K "_law_tried"))
  F_law : ∃ fd, FunD K "law" "law" (defArgs s_law) (defBody s_law) (defScope s_law) [] [] (He.ga K "law") fd
  g_law : mg "law" = some (.ref (He.ga K "law"))
  g_FEWEST_TONGUES : ∃ t, mg "FEWEST_TONGUES" = some (.int 2 t)
  g_MOST_TONGUES : ∃ t, mg "MOST_TONGUES" = some (.int 8 t)
  g_MOST_PHRASES : ∃ t, mg "MOST_PHRASES" = some (.int 6 t)
  g_MOST_LETTERS : ∃ t, mg "MOST_LETTERS" = some (.int 6 t)
  g_LETTERS : ∃ t, mg "LETTERS" = some (.str "abcdefghijklmnopqrstuvwxyz" t)
  f_all : mg "all" = none
  f_bool : mg "bool" = none
  f_enumerate : mg "enumerate" = none
  f_int : mg "int" = none
  f_isinstance : mg "isinstance" = none
  f_len : mg "len" = none
  f_list : mg "list" = none
  f_range : mg "range" = none
  f_set : mg "set" = none
  f_sorted : mg "sorted" = none
  f_str : mg "str" = none
  g_Past : mg "Past" = some (.ref (He.ga K "Past"))
  k_Past : Cls K (He.ga K "Past")
  m_Past_begin_phrase : Meth K (He.ga K "Past") "begin_phrase" (He.ma K (He.ga K "Past") "begin_phrase")
  m_Past_lay_down : Meth K (He.ga K "Past") "lay_down" (He.ma K (He.ga K "Past") "lay_down")
  m_Past_take_off : Meth K (He.ga K "Past") "take_off" (He.ma K (He.ga K "Past") "take_off")
  m_Past_has_phrase : Meth K (He.ga K "Past") "has_phrase" (He.ma K (He.ga K "Past") "has_phrase")
  m_Past_standing : Meth K (He.ga K "Past") "standing" (He.ma K (He.ga K "Past") "standing")
  m_Past_text_standing : Meth K (He.ga K "Past") "text_standing" (He.ma K (He.ga K "Past") "text_standing")
  m_Past_cells : Meth K (He.ga K "Past") "cells" (He.ma K (He.ga K "Past") "cells")
  m_Past_was_seen : Meth K (He.ga K "Past") "was_seen" (He.ma K (He.ga K "Past") "was_seen")
  m_Past_is_over : Meth K (He.ga K "Past") "is_over" (He.ma K (He.ga K "Past") "is_over")
  m_Past_can_take_off : Meth K (He.ga K "Past") "can_take_off" (He.ma K (He.ga K "Past") "can_take_off")
  m_Past_takes : Meth K (He.ga K "Past") "takes" (He.ma K (He.ga K "Past") "takes")
  m_Past_takes_phrase : Meth K (He.ga K "Past") "takes_phrase" (He.ma K (He.ga K "Past") "takes_phrase")
  m_Past_takes_put : Meth K (He.ga K "Past") "takes_put" (He.ma K (He.ga K "Past") "takes_put")
  m_Past_takes_back : Meth K (He.ga K "Past") "takes_back" (He.ma K (He.ga K "Past") "takes_back")
  i_Past : Mk K (He.ga K "Past") (He.ma K (He.ga K "Past") "__init__")
  t_Past : Ins1 K (He.ga K "Past")
  is_Past_Past : PySem.W.kitOne K (.ref (He.ga K "Past")) (.ref (He.ga K "Past")) = some true
  is_Past_Desk : PySem.W.kitOne K (.ref (He.ga K "Past")) (.ref (He.ga K "Desk")) = some false
  g_Desk : mg "Desk" = some (.ref (He.ga K "Desk"))
  k_Desk : Cls K (He.ga K "Desk")
  m_Desk_phrase : Meth K (He.ga K "Desk") "phrase" (He.ma K (He.ga K "Desk") "phrase")
  m_Desk_put : Meth K (He.ga K "Desk") "put" (He.ma K (He.ga K "Desk") "put")
  m_Desk_back : Meth K (He.ga K "Desk") "back" (He.ma K (He.ga K "Desk") "back")
  m_Desk_now : Meth K (He.ga K "Desk") "now" (He.ma K (He.ga K "Desk") "now")
  m_Desk_all_put : Meth K (He.ga K "Desk") "all_put" (He.ma K (He.ga K "Desk") "all_put")
  m_Desk_row : Meth K (He.ga K "Desk") "row" (He.ma K (He.ga K "Desk") "row")
  m_Desk_old : Meth K (He.ga K "Desk") "old" (He.ma K (He.ga K "Desk") "old")
  m_Desk_likes : Meth K (He.ga K "Desk") "likes" (He.ma K (He.ga K "Desk") "likes")
  m_Desk_fill : Meth K (He.ga K "Desk") "fill" (He.ma K (He.ga K "Desk") "fill")
  m_Desk_rounds : Meth K (He.ga K "Desk") "rounds" (He.ma K (He.ga K "Desk") "rounds")
  m_Desk_tale : Meth K (He.ga K "Desk") "tale" (He.ma K (He.ga K "Desk") "tale")
  m_Desk_check_phrase : Meth K (He.ga K "Desk") "check_phrase" (He.ma K (He.ga K "Desk") "check_phrase")
  m_Desk_check_place : Meth K (He.ga K "Desk") "check_place" (He.ma K (He.ga K "Desk") "check_place")
  m_Desk_check_other_tongue : Meth K (He.ga K "Desk") "check_other_tongue" (He.ma K (He.ga K "Desk") "check_other_tongue")
  m_Desk_check_text : Meth K (He.ga K "Desk") "check_text" (He.ma K (He.ga K "Desk") "check_text")
  m_Desk_is_fresh : Meth K (He.ga K "Desk") "is_fresh" (He.ma K (He.ga K "Desk") "is_fresh")
  m_Desk_texts_to_fill : Meth K (He.ga K "Desk") "texts_to_fill" (He.ma K (He.ga K "Desk") "texts_to_fill")
  m_Desk_put_like : Meth K (He.ga K "Desk") "put_like" (He.ma K (He.ga K "Desk") "put_like")
  i_Desk : Mk K (He.ga K "Desk") (He.ma K (He.ga K "Desk") "__init__")
  t_Desk : Ins1 K (He.ga K "Desk")
  is_Desk_Past : PySem.W.kitOne K (.ref (He.ga K "Desk")) (.ref (He.ga K "Past")) = some false
  is_Desk_Desk : PySem.W.kitOne K (.ref (He.ga K "Desk")) (.ref (He.ga K "Desk")) = some true
  n_Past_ever : NoAttr K (He.ga K "Past") "ever"
  n_Past_froms : NoAttr K (He.ga K "Past") "froms"
  n_Past_origins : NoAttr K (He.ga K "Past") "origins"
  n_Past_phrases : NoAttr K (He.ga K "Past") "phrases"
  n_Past_piles : NoAttr K (He.ga K "Past") "piles"
  n_Past_texts : NoAttr K (He.ga K "Past") "texts"
  n_Desk_lines : NoAttr K (He.ga K "Desk") "lines"
  n_Desk_past : NoAttr K (He.ga K "Desk") "past"
  g_PhraseError : mg "PhraseError" = some (.ref (He.ga K "PhraseError"))
  g_BadFroms : mg "BadFroms" = some (.ref (He.ga K "BadFroms"))
  g_BadPhrase : mg "BadPhrase" = some (.ref (He.ga K "BadPhrase"))
  g_BadTongue : mg "BadTongue" = some (.ref (He.ga K "BadTongue"))
  g_BadText : mg "BadText" = some (.ref (He.ga K "BadText"))
  g_BadSeen : mg "BadSeen" = some (.ref (He.ga K "BadSeen"))
  g_Overtaken : mg "Overtaken" = some (.ref (He.ga K "Overtaken"))
  g_Nothing : mg "Nothing" = some (.ref (He.ga K "Nothing"))
  g_TooMany : mg "TooMany" = some (.ref (He.ga K "TooMany"))
  x_BadFroms : PySem.W.excIn K (He.ga K "BadFroms") He.veBase "ValueError.__new__" = true ∧ PySem.W.keepIn K (.ref (He.ga K "BadFroms")) = true ∧ PySem.W.subIn K (.ref (He.ga K "BadFroms")) (.type "BaseException") = some true ∧ PySem.W.typeIn K (.ref (He.ga K "BadFroms")) = some (.type "type")
  x_TooMany : PySem.W.excIn K (He.ga K "TooMany") He.veBase "ValueError.__new__" = true ∧ PySem.W.keepIn K (.ref (He.ga K "TooMany")) = true ∧ PySem.W.subIn K (.ref (He.ga K "TooMany")) (.type "BaseException") = some true ∧ PySem.W.typeIn K (.ref (He.ga K "TooMany")) = some (.type "type")
  x_BadSeen : PySem.W.excIn K (He.ga K "BadSeen") He.veBase "ValueError.__new__" = true ∧ PySem.W.keepIn K (.ref (He.ga K "BadSeen")) = true ∧ PySem.W.subIn K (.ref (He.ga K "BadSeen")) (.type "BaseException") = some true ∧ PySem.W.typeIn K (.ref (He.ga K "BadSeen")) = some (.type "type")
  x_Overtaken : PySem.W.excIn K (He.ga K "Overtaken") He.veBase "ValueError.__new__" = true ∧ PySem.W.keepIn K (.ref (He.ga K "Overtaken")) = true ∧ PySem.W.subIn K (.ref (He.ga K "Overtaken")) (.type "BaseException") = some true ∧ PySem.W.typeIn K (.ref (He.ga K "Overtaken")) = some (.type "type")
  x_Nothing : PySem.W.excIn K (He.ga K "Nothing") He.veBase "ValueError.__new__" = true ∧ PySem.W.keepIn K (.ref (He.ga K "Nothing")) = true ∧ PySem.W.subIn K (.ref (He.ga K "Nothing")) (.type "BaseException") = some true ∧ PySem.W.typeIn K (.ref (He.ga K "Nothing")) = some (.type "type")
  x_BadPhrase : PySem.W.excIn K (He.ga K "BadPhrase") He.veBase "ValueError.__new__" = true ∧ PySem.W.keepIn K (.ref (He.ga K "BadPhrase")) = true ∧ PySem.W.subIn K (.ref (He.ga K "BadPhrase")) (.type "BaseException") = some true ∧ PySem.W.typeIn K (.ref (He.ga K "BadPhrase")) = some (.type "type")
  x_BadTongue : PySem.W.excIn K (He.ga K "BadTongue") He.veBase "ValueError.__new__" = true ∧ PySem.W.keepIn K (.ref (He.ga K "BadTongue")) = true ∧ PySem.W.subIn K (.ref (He.ga K "BadTongue")) (.type "BaseException") = some true ∧ PySem.W.typeIn K (.ref (He.ga K "BadTongue")) = some (.type "type")
  x_BadText : PySem.W.excIn K (He.ga K "BadText") He.veBase "ValueError.__new__" = true ∧ PySem.W.keepIn K (.ref (He.ga K "BadText")) = true ∧ PySem.W.subIn K (.ref (He.ga K "BadText")) (.type "BaseException") = some true ∧ PySem.W.typeIn K (.ref (He.ga K "BadText")) = some (.type "type")
  e_Overtaken_Overtaken : PySem.W.exmOne K (.ref (He.ga K "Overtaken")) (.ref (He.ga K "Overtaken")) = some true
  e_Overtaken_Nothing : PySem.W.exmOne K (.ref (He.ga K "Overtaken")) (.ref (He.ga K "Nothing")) = some false
  e_Nothing_Overtaken : PySem.W.exmOne K (.ref (He.ga K "Nothing")) (.ref (He.ga K "Overtaken")) = some false
  e_Nothing_Nothing : PySem.W.exmOne K (.ref (He.ga K "Nothing")) (.ref (He.ga K "Nothing")) = some true
  u_law : ∀ p ∈ tbs K, p.1 = (He.cT K ("law", none)).2 → p.2 = lamName "law"
--MK
theorem exs_at {K : PySem.W.Frag} (h : ex K = true) (i : Nat) {b : Bool} (e : (exs K)[i]? = some b) : b = true := List.all_eq_true.mp h b (List.mem_of_getElem? e)
theorem ins_ok {K : PySem.W.Frag} {x : Str} (h : insB K x = true) : Ins1 K (He.ga K x) := by
  obtain ⟨h1, h⟩ := He.ba h
  obtain ⟨h2, h⟩ := He.ba h
  obtain ⟨h3, h4⟩ := He.ba h
  exact ⟨He.eqO_ok h1, He.eqO_ok h3, of_decide_eq_true h4, of_decide_eq_true h2⟩
theorem bare_ok {K : PySem.W.Frag} {x : Str} (h : bareB K x = true) : Bare K (He.ga K x) := by
  obtain ⟨h1, h⟩ := He.ba h
  obtain ⟨h2, h3⟩ := He.ba h
  exact ⟨h1, He.eqO_ok h2, h3⟩
theorem tx_mk {K : PySem.W.Frag} {h : Heap} {w : World} {mg : Str → Option Value} (X : K.In h) (G : h.Ns mainGlobals mg) (c : He.SaysX fa fn [] tfs ex w h K) : Tx K mg where
  F_wall := c.t.d.def_ 0 (d := d_wall) rfl
  g_wall := He.glo_ok X G (c.t.d.fact 0 (f := .glo "_wall") rfl)
  F_is_number := c.t.d.def_ 1 (d := d_is_number) rfl
  g_is_number := He.glo_ok X G (c.t.d.fact 1 (f := .glo "is_number") rfl)
  F_is_count := c.t.d.def_ 2 (d := d_is_count) rfl
  g_is_count := He.glo_ok X G (c.t.d.fact 2 (f := .glo "is_count") rfl)
  F_is_number_or_none := c.t.d.def_ 3 (d := d_is_number_or_none) rfl
  g_is_number_or_none := He.glo_ok X G (c.t.d.fact 3 (f := .glo "is_number_or_none") rfl)
  F_is_text := c.t.d.def_ 4 (d := d_is_text) rfl
  g_is_text := He.glo_ok X G (c.t.d.fact 4 (f := .glo "is_text") rfl)
  F_is_froms := c.t.d.def_ 5 (d := d_is_froms) rfl
  g_is_froms := He.glo_ok X G (c.t.d.fact 5 (f := .glo "is_froms") rfl)
  F_is_tongue := c.t.d.def_ 6 (d := d_is_tongue) rfl
  g_is_tongue := He.glo_ok X G (c.t.d.fact 6 (f := .glo "is_tongue") rfl)
  F_put_from := c.t.d.def_ 7 (d := d_put_from) rfl
  g_put_from := He.glo_ok X G (c.t.d.fact 7 (f := .glo "put_from") rfl)
  F_is_broken := c.t.d.def_ 8 (d := d_is_broken) rfl
  g_is_broken := He.glo_ok X G (c.t.d.fact 8 (f := .glo "is_broken") rfl)
  F_chain_up := c.t.d.def_ 9 (d := d_chain_up) rfl
  g_chain_up := He.glo_ok X G (c.t.d.fact 9 (f := .glo "chain_up") rfl)
  F_Past_init := c.t.d.def_ 10 (d := d_Past_init) rfl
  F_Past_begin_phrase := c.t.d.def_ 11 (d := d_Past_begin_phrase) rfl
  F_Past_lay_down := c.t.d.def_ 12 (d := d_Past_lay_down) rfl
  F_Past_take_off := c.t.d.def_ 13 (d := d_Past_take_off) rfl
  F_Past_has_phrase := c.t.d.def_ 14 (d := d_Past_has_phrase) rfl
  F_Past_standing := c.t.d.def_ 15 (d := d_Past_standing) rfl
  F_Past_text_standing := c.t.d.def_ 16 (d := d_Past_text_standing) rfl
  F_Past_cells := c.t.d.def_ 17 (d := d_Past_cells) rfl
  F_Past_was_seen := c.t.d.def_ 18 (d := d_Past_was_seen) rfl
  F_Past_is_over := c.t.d.def_ 19 (d := d_Past_is_over) rfl
  F_Past_can_take_off := c.t.d.def_ 20 (d := d_Past_can_take_off) rfl
  F_Past_takes := c.t.d.def_ 21 (d := d_Past_takes) rfl
  F_Past_takes_phrase := c.t.d.def_ 22 (d := d_Past_takes_phrase) rfl
  F_Past_takes_put := c.t.d.def_ 23 (d := d_Past_takes_put) rfl
  F_Past_takes_back := c.t.d.def_ 24 (d := d_Past_takes_back) rfl
  F_Desk_init := c.t.d.def_ 25 (d := d_Desk_init) rfl
  F_Desk_phrase := c.t.d.def_ 26 (d := d_Desk_phrase) rfl
  F_Desk_put := c.t.d.def_ 27 (d := d_Desk_put) rfl
  F_Desk_back := c.t.d.def_ 28 (d := d_Desk_back) rfl
  F_Desk_now := c.t.d.def_ 29 (d := d_Desk_now) rfl
  F_Desk_all_put := c.t.d.def_ 30 (d := d_Desk_all_put) rfl
  F_Desk_row := c.t.d.def_ 31 (d := d_Desk_row) rfl
  F_Desk_old := c.t.d.def_ 32 (d := d_Desk_old) rfl
  F_Desk_likes := c.t.d.def_ 33 (d := d_Desk_likes) rfl
  F_Desk_fill := c.t.d.def_ 34 (d := d_Desk_fill) rfl
  F_Desk_rounds := c.t.d.def_ 35 (d := d_Desk_rounds) rfl
  F_Desk_tale := c.t.d.def_ 36 (d := d_Desk_tale) rfl
  F_Desk_check_phrase := c.t.d.def_ 37 (d := d_Desk_check_phrase) rfl
  F_Desk_check_place := c.t.d.def_ 38 (d := d_Desk_check_place) rfl
  F_Desk_check_other_tongue := c.t.d.def_ 39 (d := d_Desk_check_other_tongue) rfl
  F_Desk_check_text := c.t.d.def_ 40 (d := d_Desk_check_text) rfl
  F_Desk_is_fresh := c.t.d.def_ 41 (d := d_Desk_is_fresh) rfl
  F_Desk_texts_to_fill := c.t.d.def_ 42 (d := d_Desk_texts_to_fill) rfl
  F_Desk_put_like := c.t.d.def_ 43 (d := d_Desk_put_like) rfl
  F_law_cell_at := c.t.d.def_ 44 (d := d_law_cell_at) rfl
  g_law_cell_at := He.glo_ok X G (c.t.d.fact 10 (f := .glo "_law_cell_at") rfl)
  F_law_draw := c.t.d.def_ 45 (d := d_law_draw) rfl
  g_law_draw := He.glo_ok X G (c.t.d.fact 11 (f := .glo "_law_draw") rfl)
  F_law_number := c.t.d.def_ 46 (d := d_law_number) rfl
  g_law_number := He.glo_ok X G (c.t.d.fact 12 (f := .glo "_law_number") rfl)
  F_law_froms := c.t.d.def_ 47 (d := d_law_froms) rfl
  g_law_froms := He.glo_ok X G (c.t.d.fact 13 (f := .glo "_law_froms") rfl)
  F_law_text := c.t.d.def_ 48 (d := d_law_text) rfl
  g_law_text := He.glo_ok X G (c.t.d.fact 14 (f := .glo "_law_text") rfl)
  F_law_new := c.t.d.def_ 49 (d := d_law_new) rfl
  g_law_new := He.glo_ok X G (c.t.d.fact 15 (f := .glo "_law_new") rfl)
  F_law_now := c.t.d.def_ 50 (d := d_law_now) rfl
  g_law_now := He.glo_ok X G (c.t.d.fact 16 (f := .glo "_law_now") rfl)
  F_law_row := c.t.d.def_ 51 (d := d_law_row) rfl
  g_law_row := He.glo_ok X G (c.t.d.fact 17 (f := .glo "_law_row") rfl)
  F_law_chain := c.t.d.def_ 52 (d := d_law_chain) rfl
  g_law_chain := He.glo_ok X G (c.t.d.fact 18 (f := .glo "_law_chain") rfl)
  F_law_ever := c.t.d.def_ 53 (d := d_law_ever) rfl
  g_law_ever := He.glo_ok X G (c.t.d.fact 19 (f := .glo "_law_ever") rfl)
  F_law_likes := c.t.d.def_ 54 (d := d_law_likes) rfl
  g_law_likes := He.glo_ok X G (c.t.d.fact 20 (f := .glo "_law_likes") rfl)
  F_law_deed := c.t.d.def_ 55 (d := d_law_deed) rfl
  g_law_deed := He.glo_ok X G (c.t.d.fact 21 (f := .glo "_law_deed") rfl)
  F_law_put := c.t.d.def_ 56 (d := d_law_put) rfl
  g_law_put := He.glo_ok X G (c.t.d.fact 22 (f := .glo "_law_put") rfl)
  F_law_come := c.t.d.def_ 57 (d := d_law_come) rfl
  g_law_come := He.glo_ok X G (c.t.d.fact 23 (f := .glo "_law_come") rfl)
  F_law_do := c.t.d.def_ 58 (d := d_law_do) rfl
  g_law_do := He.glo_ok X G (c.t.d.fact 24 (f := .glo "_law_do") rfl)
  F_law_played := c.t.d.def_ 59 (d := d_law_played) rfl
  g_law_played := He.glo_ok X G (c.t.d.fact 25 (f := .glo "_law_played") rfl)
  F_law_tried := c.t.d.def_ 60 (d := d_law_tried) rfl
  g_law_tried := He.glo_ok X G (c.t.d.fact 26 (f := .glo "_law_tried") rfl)
  F_law := c.t.d.def_ 61 (d := d_law) rfl
  g_law := He.glo_ok X G (c.t.d.fact 27 (f := .glo "law") rfl)
  g_FEWEST_TONGUES := He.int_ok X G (c.t.d.fact 28 (f := .int "FEWEST_TONGUES" 2) rfl)
  g_MOST_TONGUES := He.int_ok X G (c.t.d.fact 29 (f := .int "MOST_TONGUES" 8) rfl)
  g_MOST_PHRASES := He.int_ok X G (c.t.d.fact 30 (f := .int "MOST_PHRASES" 6) rfl)
  g_MOST_LETTERS := He.int_ok X G (c.t.d.fact 31 (f := .int "MOST_LETTERS" 6) rfl)
  g_LETTERS := He.str_ok X G (c.t.d.fact 32 (f := .str "LETTERS" "abcdefghijklmnopqrstuvwxyz") rfl)
  f_all := He.free_ok X G (c.t.d.fact 33 (f := .free "all") rfl)
  f_bool := He.free_ok X G (c.t.d.fact 34 (f := .free "bool") rfl)
  f_enumerate := He.free_ok X G (c.t.d.fact 35 (f := .free "enumerate") rfl)
  f_int := He.free_ok X G (c.t.d.fact 36 (f := .free "int") rfl)
  f_isinstance := He.free_ok X G (c.t.d.fact 37 (f := .free "isinstance") rfl)
  f_len := He.free_ok X G (c.t.d.fact 38 (f := .free "len") rfl)
  f_list := He.free_ok X G (c.t.d.fact 39 (f := .free "list") rfl)
  f_range := He.free_ok X G (c.t.d.fact 40 (f := .free "range") rfl)
  f_set := He.free_ok X G (c.t.d.fact 41 (f := .free "set") rfl)
  f_sorted := He.free_ok X G (c.t.d.fact 42 (f := .free "sorted") rfl)
  f_str := He.free_ok X G (c.t.d.fact 43 (f := .free "str") rfl)
  g_Past := He.glo_ok X G (c.t.d.fact 44 (f := .glo "Past") rfl)
  k_Past := He.cls_ok (c.t.d.fact 45 (f := .cls "Past") rfl)
  m_Past_begin_phrase := He.meth_ok (c.t.d.fact 46 (f := .meth "Past" "begin_phrase") rfl)
  m_Past_lay_down := He.meth_ok (c.t.d.fact 47 (f := .meth "Past" "lay_down") rfl)
  m_Past_take_off := He.meth_ok (c.t.d.fact 48 (f := .meth "Past" "take_off") rfl)
  m_Past_has_phrase := He.meth_ok (c.t.d.fact 49 (f := .meth "Past" "has_phrase") rfl)
  m_Past_standing := He.meth_ok (c.t.d.fact 50 (f := .meth "Past" "standing") rfl)
  m_Past_text_standing := He.meth_ok (c.t.d.fact 51 (f := .meth "Past" "text_standing") rfl)
  m_Past_cells := He.meth_ok (c.t.d.fact 52 (f := .meth "Past" "cells") rfl)
  m_Past_was_seen := He.meth_ok (c.t.d.fact 53 (f := .meth "Past" "was_seen") rfl)
  m_Past_is_over := He.meth_ok (c.t.d.fact 54 (f := .meth "Past" "is_over") rfl)
  m_Past_can_take_off := He.meth_ok (c.t.d.fact 55 (f := .meth "Past" "can_take_off") rfl)
  m_Past_takes := He.meth_ok (c.t.d.fact 56 (f := .meth "Past" "takes") rfl)
  m_Past_takes_phrase := He.meth_ok (c.t.d.fact 57 (f := .meth "Past" "takes_phrase") rfl)
  m_Past_takes_put := He.meth_ok (c.t.d.fact 58 (f := .meth "Past" "takes_put") rfl)
  m_Past_takes_back := He.meth_ok (c.t.d.fact 59 (f := .meth "Past" "takes_back") rfl)
  i_Past := He.mkr_ok (c.t.d.fact 60 (f := .mkr "Past") rfl)
  t_Past := ins_ok (x := "Past") (exs_at c.more 0 rfl)
  is_Past_Past := of_decide_eq_true (exs_at c.more 1 rfl)
  is_Past_Desk := of_decide_eq_true (exs_at c.more 2 rfl)
  g_Desk := He.glo_ok X G (c.t.d.fact 61 (f := .glo "Desk") rfl)
  k_Desk := He.cls_ok (c.t.d.fact 62 (f := .cls "Desk") rfl)
  m_Desk_phrase := He.meth_ok (c.t.d.fact 63 (f := .meth "Desk" "phrase") rfl)
  m_Desk_put := He.meth_ok (c.t.d.fact 64 (f := .meth "Desk" "put") rfl)
  m_Desk_back := He.meth_ok (c.t.d.fact 65 (f := .meth "Desk" "back") rfl)
  m_Desk_now := He.meth_ok (c.t.d.fact 66 (f := .meth "Desk" "now") rfl)
  m_Desk_all_put := He.meth_ok (c.t.d.fact 67 (f := .meth "Desk" "all_put") rfl)
  m_Desk_row := He.meth_ok (c.t.d.fact 68 (f := .meth "Desk" "row") rfl)
  m_Desk_old := He.meth_ok (c.t.d.fact 69 (f := .meth "Desk" "old") rfl)
  m_Desk_likes := He.meth_ok (c.t.d.fact 70 (f := .meth "Desk" "likes") rfl)
  m_Desk_fill := He.meth_ok (c.t.d.fact 71 (f := .meth "Desk" "fill") rfl)
  m_Desk_rounds := He.meth_ok (c.t.d.fact 72 (f := .meth "Desk" "rounds") rfl)
  m_Desk_tale := He.meth_ok (c.t.d.fact 73 (f := .meth "Desk" "tale") rfl)
  m_Desk_check_phrase := He.meth_ok (c.t.d.fact 74 (f := .meth "Desk" "check_phrase") rfl)
  m_Desk_check_place := He.meth_ok (c.t.d.fact 75 (f := .meth "Desk" "check_place") rfl)
  m_Desk_check_other_tongue := He.meth_ok (c.t.d.fact 76 (f := .meth "Desk" "check_other_tongue") rfl)
  m_Desk_check_text := He.meth_ok (c.t.d.fact 77 (f := .meth "Desk" "check_text") rfl)
  m_Desk_is_fresh := He.meth_ok (c.t.d.fact 78 (f := .meth "Desk" "is_fresh") rfl)
  m_Desk_texts_to_fill := He.meth_ok (c.t.d.fact 79 (f := .meth "Desk" "texts_to_fill") rfl)
  m_Desk_put_like := He.meth_ok (c.t.d.fact 80 (f := .meth "Desk" "put_like") rfl)
  i_Desk := He.mkr_ok (c.t.d.fact 81 (f := .mkr "Desk") rfl)
  t_Desk := ins_ok (x := "Desk") (exs_at c.more 3 rfl)
  is_Desk_Past := of_decide_eq_true (exs_at c.more 4 rfl)
  is_Desk_Desk := of_decide_eq_true (exs_at c.more 5 rfl)
  n_Past_ever := He.noat_ok (c.t.d.fact 82 (f := .noat "Past" "ever") rfl)
  n_Past_froms := He.noat_ok (c.t.d.fact 83 (f := .noat "Past" "froms") rfl)
  n_Past_origins := He.noat_ok (c.t.d.fact 84 (f := .noat "Past" "origins") rfl)
  n_Past_phrases := He.noat_ok (c.t.d.fact 85 (f := .noat "Past" "phrases") rfl)
  n_Past_piles := He.noat_ok (c.t.d.fact 86 (f := .noat "Past" "piles") rfl)
  n_Past_texts := He.noat_ok (c.t.d.fact 87 (f := .noat "Past" "texts") rfl)
  n_Desk_lines := He.noat_ok (c.t.d.fact 88 (f := .noat "Desk" "lines") rfl)
  n_Desk_past := He.noat_ok (c.t.d.fact 89 (f := .noat "Desk" "past") rfl)
  g_PhraseError := He.glo_ok X G (c.t.d.fact 90 (f := .glo "PhraseError") rfl)
  g_BadFroms := He.glo_ok X G (c.t.d.fact 92 (f := .glo "BadFroms") rfl)
  g_BadPhrase := He.glo_ok X G (c.t.d.fact 94 (f := .glo "BadPhrase") rfl)
  g_BadTongue := He.glo_ok X G (c.t.d.fact 96 (f := .glo "BadTongue") rfl)
  g_BadText := He.glo_ok X G (c.t.d.fact 98 (f := .glo "BadText") rfl)
  g_BadSeen := He.glo_ok X G (c.t.d.fact 100 (f := .glo "BadSeen") rfl)
  g_Overtaken := He.glo_ok X G (c.t.d.fact 102 (f := .glo "Overtaken") rfl)
  g_Nothing := He.glo_ok X G (c.t.d.fact 104 (f := .glo "Nothing") rfl)
  g_TooMany := He.glo_ok X G (c.t.d.fact 106 (f := .glo "TooMany") rfl)
  x_BadFroms := He.exc_ok (c.t.d.fact 93 (f := .exc "BadFroms") rfl)
  x_TooMany := He.exc_ok (c.t.d.fact 107 (f := .exc "TooMany") rfl)
  x_BadSeen := He.exc_ok (c.t.d.fact 101 (f := .exc "BadSeen") rfl)
  x_Overtaken := He.exc_ok (c.t.d.fact 103 (f := .exc "Overtaken") rfl)
  x_Nothing := He.exc_ok (c.t.d.fact 105 (f := .exc "Nothing") rfl)
  x_BadPhrase := He.exc_ok (c.t.d.fact 95 (f := .exc "BadPhrase") rfl)
  x_BadTongue := He.exc_ok (c.t.d.fact 97 (f := .exc "BadTongue") rfl)
  x_BadText := He.exc_ok (c.t.d.fact 99 (f := .exc "BadText") rfl)
  e_Overtaken_Overtaken := of_decide_eq_true (exs_at c.more 6 rfl)
  e_Overtaken_Nothing := of_decide_eq_true (exs_at c.more 7 rfl)
  e_Nothing_Overtaken := of_decide_eq_true (exs_at c.more 8 rfl)
  e_Nothing_Nothing := of_decide_eq_true (exs_at c.more 9 rfl)
  u_law := by
    intro p hp hq
    simp only [List.mem_cons, List.not_mem_nil, or_false] at hp
    rcases hp with rfl
    · rfl
theorem tb_mk {K : PySem.W.Frag} {mg : Str → Option Value} {base : Heap} (h : ∀ p ∈ tfs.map (He.cT K), LamX.TabB base mg p.1 p.2) : Tb K mg base where
  tb_law := h _ (List.mem_map.mpr ⟨_, (List.mem_cons_self), rfl⟩)

end PD

namespace PD
open PySem PySem.Spec PyProof.Rows L2

/-! Phrasedesk, law_k05: what the other laws have, too -/
theorem qt {Q : V → Hp → Prop} {H : Hp} {b c : Bool} (h : b = c) (q : Q (.bl c) H) : Q (.bl b) H := by
  rw [h]
  exact q
theorem ivs {ns : List Int} {i : Nat} {x : Int} (h : ns[i]? = some x) : (ns.map V.int)[i]? = some (V.int x) := by
  rw [List.getElem?_map, h]
  rfl
def spNum (K : PySem.W.Frag) : Sp := fun vs H Q _ => ∃ (v : V) (t : Value) (b1 b2 : Bool), vs = [v] ∧ TyX K H v t ∧ PySem.W.kitOne K t (.type "int") = some b1 ∧ PySem.W.kitOne K t (.type "bool") = some b2 ∧ Q (.bl (b1 && !b2)) H
theorem sc_is_number : FnScope ["value"] ["value"] (defScope s_is_number) := ⟨rfl, rfl, rfl, by decide +kernel, rfl, by decide +kernel, by decide +kernel⟩
theorem c_is_number {P : Program} {w : World} {K : PySem.W.Frag} {mg : Str → Option Value} {base : Heap} (T : Tx K mg) : C8.Cal P w K mg base 1 "is_number" (spNum K) [] := by
  refine calD T.F_is_number T.g_is_number (fun _ _ _ _ _ _ us hl => match us, hl with | [_], _ => rfl) sc_is_number (fun vs H Q E h => ?_) (fun cdv A outer s H vs Q E hr h => ?_)
  · obtain ⟨v, t, b1, b2, rfl, _⟩ := h
    rfl
  · obtain ⟨v, t, b1, b2, rfl, ty, k1, k2, q⟩ := h
    refine ⟨_, (pss_one (ps_ret (pe_and (pe_callB call_isi (by rfl) T.f_isinstance (by decide +kernel) (pa_cons (pv 0) (pa_cons (pe_bltn (v := .ty "int") (by rfl) T.f_int (by decide +kernel) rfl) pa_nil))) (pe_one (pe_not (pe_callB call_isi (by rfl) T.f_isinstance (by decide +kernel) (pa_cons (pv 0) (pa_cons (pe_bltn (v := .ty "bool") (by rfl) T.f_bool (by decide +kernel) rfl) pa_nil)))))))), ?_⟩
    refine ⟨_, rfl, _, _, t, _, b1, rfl, .ty _, ty, k1, b1, rfl, ?_⟩
    cases b1 with
    | false => exact iteF q
    | true => exact iteT ⟨_, rfl, _, _, t, _, b2, rfl, .ty _, ty, k2, b2, rfl, q⟩
def spFrom : Sp := fun vs H Q _ => ∃ (a : Addr) (fr : List Int) (t : Nat) (x : Int), vs = [.ref a, .int (t : Int)] ∧ LsAt H a fr ∧ 0 < t ∧ fr[t - 1]? = some x ∧ Q (.int x) H
theorem sc_put_from : FnScope ["froms", "tongue"] ["froms", "tongue"] (defScope s_put_from) := ⟨rfl, rfl, rfl, by decide +kernel, rfl, by decide +kernel, by decide +kernel⟩
theorem c_put_from {P : Program} {w : World} {K : PySem.W.Frag} {mg : Str → Option Value} {base : Heap} (T : Tx K mg) : C8.Cal P w K mg base 1 "put_from" (spFrom) [] := by
  refine calD T.F_put_from T.g_put_from (fun _ _ _ _ _ _ us hl => match us, hl with | [_, _], _ => rfl) sc_put_from (fun vs H Q E h => ?_) (fun cdv A outer s H vs Q E hr h => ?_)
  · obtain ⟨a, fr, t, x, rfl, _⟩ := h
    rfl
  · obtain ⟨a, fr, t, x, rfl, ha, h0, hx, q⟩ := h
    refine ⟨_, (pss_one (ps_ret (pe_ix ix_list (pv 0) (pe_op op_sub (pv 1) pe_int) (fun _ _ => rfl)))), ?_⟩
    exact ⟨_, rfl, _, rfl, _, _, rfl, rfl, a, _, _, _, rfl, rfl, SqL.of ha, at_of (j := t - 1) (by omega) (ivs hx), q⟩
def spBrk : Sp := fun vs H Q _ => ∃ (a : Addr) (fr : List Int) (p : Addr) (row : List Cell) (t : Nat), vs = [.ref a, .ref p, .int (t : Int)] ∧ LsAt H a fr ∧ FrOk fr ∧ RowAt H p row ∧ RowOk fr row ∧ 0 < t ∧ t ≤ fr.length ∧ Q (.bl (brk fr row t)) H
theorem getD_of {α : Type} {l : List α} {i : Nat} {d x : α} (h : l[i]? = some x) : l.getD i d = x := by
  rw [List.getD_eq_getElem?_getD, h]
  rfl
theorem sc_is_broken : FnScope ["froms", "row", "tongue", "cell", "above"] ["froms", "row", "tongue"] (defScope s_is_broken) := ⟨rfl, rfl, rfl, by decide +kernel, rfl, by decide +kernel, by decide +kernel⟩
theorem c_is_broken {P : Program} {w : World} {K : PySem.W.Frag} {mg : Str → Option Value} {base : Heap} (T : Tx K mg) : C8.Cal P w K mg base 2 "is_broken" (spBrk) [] := by
  refine calD T.F_is_broken T.g_is_broken (fun _ _ _ _ _ _ us hl => match us, hl with | [_, _, _], _ => rfl) sc_is_broken (fun vs H Q E h => ?_) (fun cdv A outer s H vs Q E hr h => ?_)
  · obtain ⟨a, fr, p, row, t, rfl, _⟩ := h
    rfl
  · obtain ⟨a, fr, p, row, t, rfl, ha, fo, hp, ro, h0, h1, q⟩ := h
    obtain ⟨vs, hv, hc⟩ := hp
    obtain ⟨x, ex, x0, xl, xu⟩ := fo.at h0 h1
    have hl1 : t < row.length := by rw [ro.len]; omega
    have hl2 : up fr t < row.length := by rw [ro.len]; omega
    obtain ⟨v1, e1, c1⟩ := hc.each t row[t] (List.getElem?_eq_getElem hl1)
    obtain ⟨v2, e2, c2⟩ := hc.each (up fr t) row[up fr t] (List.getElem?_eq_getElem hl2)
    have g1 : row.getD t none = row[t] := getD_of (List.getElem?_eq_getElem hl1)
    have g2 : row.getD (up fr t) none = row[up fr t] := getD_of (List.getElem?_eq_getElem hl2)
    unfold brk at q
    rw [g1, g2] at q
    refine ⟨_, (pss_cons (ps_set (i := 3) sc_is_broken.nd rfl (Or.inl rfl) (pe_ix ix_list (pv 1) (pv 2) (fun _ _ => rfl)))
    (pss_cons (ps_set (i := 4) sc_is_broken.nd rfl (Or.inl rfl) (pe_ix ix_list (pv 1) (C8.pe_c (c_put_from T) hr (by decide) rfl (pa_cons (pv 0) (pa_cons (pv 2) pa_nil))) (fun _ _ => rfl)))
    (pss_one (ps_ret (pe_or (pe_cmpR op_isN (pv 3) pe_non (nomark _)) (pe_or (pe_cmpR op_isN (pv 4) pe_non (nomark _)) (pe_one (pe_cmpR op_ne (pe_ix ix_tup (pv 3) pe_int (fun _ _ => rfl)) (pe_ix ix_tup (pv 4) pe_int (fun _ _ => rfl)) (nomark _))))))))), ?_⟩
    refine ⟨_, rfl, _, rfl, p, _, _, v1, rfl, rfl, SqL.of hv, atI_nat e1, _, rfl, _, rfl, _, rfl, a, fr, t, x, rfl, ha, h0, ex, p, _, _, v2, rfl, rfl, SqL.of hv, at_of (j := up fr t) xu e2, ?_⟩
    cases q1 : row[t] with
    | none =>
      rw [q1] at c1 q
      cases (show v1 = .non from c1)
      exact ⟨_, rfl, rfl, true, by rw [decide_eq_true rfl], iteT q⟩
    | some c =>
      obtain ⟨n1, b1⟩ := c
      rw [q1] at c1 q
      obtain ⟨p1, rfl, k1⟩ := c1
      refine ⟨_, rfl, rfl, false, by rw [decide_eq_false (by intro z; cases z)], iteF ?_⟩
      cases q2 : row[up fr t] with
      | none =>
        rw [q2] at c2 q
        cases (show v2 = .non from c2)
        exact ⟨_, rfl, rfl, true, by rw [decide_eq_true rfl], iteT q⟩
      | some d =>
        obtain ⟨n2, b2⟩ := d
        rw [q2] at c2 q
        obtain ⟨p2, rfl, k2⟩ := c2
        obtain ⟨m1, m2, em, _, _⟩ : ∃ a b, (some (n1, b1) : Cell) = some (a, some b) ∧ 0 ≤ a ∧ 0 ≤ b := by
          have et : row[t - 1 + 1]? = some (some (n1, b1)) := by
            rw [show t - 1 + 1 = t by omega, List.getElem?_eq_getElem hl1, q1]
          rcases ro.each (t - 1) _ et with z | z
          · cases z
          · exact z
        cases em
        refine ⟨_, rfl, rfl, false, by rw [decide_eq_false (by intro z; cases z)], iteF ?_⟩
        refine ⟨_, rfl, p1, _, _, _, rfl, rfl, SqT.of k1, atI_nat (j := 1) rfl, _, rfl, p2, _, _, _, rfl, rfl, SqT.of k2, atI_nat (j := 0) rfl, rfl, ?_⟩
        refine qt ?_ q
        show (!decide (V.int m2 = V.int n2)) = !decide (some m2 = some n2)
        by_cases z : m2 = n2
        · subst z
          simp
        · have z1 : ¬ V.int m2 = V.int n2 := fun y => z (V.int.inj y)
          have z2 : ¬ some m2 = some n2 := fun y => z (Option.some.inj y)
          rw [decide_eq_false z1, decide_eq_false z2]

def spChain : Sp := fun vs H Q _ => ∃ (a : Addr) (fr : List Int) (p : Addr) (row : List Cell) (t : Nat), vs = [.ref a, .ref p, .int (t : Int)] ∧ LsAt H a fr ∧ FrOk fr ∧ RowAt H p row ∧ RowOk fr row ∧ t ≤ fr.length ∧
  (chain fr row t = none → ∀ H' : Hp, Same H H' → Q .non H') ∧ (∀ c, chain fr row t = some c → ∀ (H' : Hp) (l : Addr), Same H H' → H l = none → LsAt H' l c → Q (.ref l) H')
theorem map_some_app {o : Option (List Int)} {acc : List Int} {x : Int} : (o.map (x :: ·)).map (acc ++ ·) = o.map ((acc ++ [x]) ++ ·) := by
  cases o with
  | none => rfl
  | some r => simp
theorem sc_chain_up : FnScope ["froms", "row", "tongue", "chain", "at"] ["froms", "row", "tongue"] (defScope s_chain_up) := ⟨rfl, rfl, rfl, by decide +kernel, rfl, by decide +kernel, by decide +kernel⟩
theorem c_chain_up {P : Program} {w : World} {K : PySem.W.Frag} {mg : Str → Option Value} {base : Heap} (T : Tx K mg) : C8.Cal P w K mg base 3 "chain_up" (spChain) [] := by
  refine calD T.F_chain_up T.g_chain_up (fun _ _ _ _ _ _ us hl => match us, hl with | [_, _, _], _ => rfl) sc_chain_up (fun vs H Q E h => ?_) (fun cdv A outer s H vs Q E hr h => ?_)
  · obtain ⟨a, fr, p, row, t, rfl, _⟩ := h
    rfl
  · obtain ⟨a, fr, p, row, t, rfl, ha, fo, hp, ro, ht, q0, q1⟩ := h
    refine ⟨_, (pss_cons (ps_set (i := 3) sc_chain_up.nd rfl (Or.inl rfl) (pe_lst pa_nil))
    (pss_cons (ps_set (i := 4) sc_chain_up.nd rfl (Or.inl rfl) (pv 2))
    (pss_cons (ps_while PassesOwn.never (pt_cmpR op_gt (pv 4) pe_int (nomark _))
      (pss_cons (ps_expr (pe_bm PySem.F.plainAttrs_list PySem.F.slot_list_append PySem.F.type_list_append mt_append (pv 3) (pa_cons (pv 4) pa_nil)))
      (pss_cons (ps_if (pt_val (C8.pe_c (c_is_broken T) hr (by decide) rfl (pa_cons (pv 0) (pa_cons (pv 1) (pa_cons (pv 4) pa_nil)))))
        (pss_one (ps_ret (pv 3)))
        pss_nil)
      (pss_one (ps_set (i := 4) sc_chain_up.nd rfl (Or.inl rfl) (C8.pe_c (c_put_from T) hr (by decide) rfl (pa_cons (pv 0) (pa_cons (pv 4) pa_nil))))))))
    (pss_one (ps_ret pe_non))))), ?_⟩
    refine ⟨Nat.zero_le _, fun l nl => ?_⟩
    have s0 : Same H (upd H l (.lst [])) := same_upd nl
    refine ⟨_, rfl, fun u σ H1 => ∃ acc : List Int, σ = [some (.ref a), some (.ref p), some (.int (t : Int)), some (.ref l), some (.int (u : Int))] ∧ u ≤ fr.length ∧ Same H H1 ∧ LsAt H1 l acc ∧ acc.length + u ≤ t ∧ chain fr row t = (chain fr row u).map (acc ++ ·), ⟨t, [], rfl, ht, s0, upd_same, by simp, by simp⟩, ?_⟩
    rintro u σ H1 ⟨acc, rfl, hu, s1, hl, hn, he⟩
    refine ⟨_, rfl, _, _, rfl, rfl, decide ((0 : Int) < (u : Int)), rfl, ?_⟩
    by_cases h0 : (0 : Int) < (u : Int)
    · rw [decide_eq_true h0]
      refine iteT ⟨fun σ' H' => ∃ m', m' < u ∧ ∃ acc : List Int, σ' = [some (.ref a), some (.ref p), some (.int (t : Int)), some (.ref l), some (.int (m' : Int))] ∧ m' ≤ fr.length ∧ Same H H' ∧ LsAt H' l acc ∧ acc.length + m' ≤ t ∧ chain fr row t = (chain fr row m').map (acc ++ ·), fun σ' H' h => h, ?_⟩
      have u0 : 0 < u := by omega
      have hz : acc.length < sizeLine := small1000 (by have := fo.hi; omega)
      refine ⟨_, rfl, .inl ⟨rfl, _, SqL.of hl⟩, _, rfl, l, _, _, rfl, rfl, hl, by rw [List.length_map]; exact hz, ?_⟩
      have s2 : Same H (upd H1 l (.lst (acc.map V.int ++ [V.int (u : Int)]))) := Same.chg s1 nl
      have hl2 : LsAt (upd H1 l (.lst (acc.map V.int ++ [V.int (u : Int)]))) l (acc ++ [(u : Int)]) := by
        unfold LsAt
        rw [upd_same, List.map_append]
        rfl
      refine ⟨_, rfl, _, rfl, _, rfl, a, fr, p, row, u, rfl, ha.same s2, fo, hp.same s2, ro, u0, hu, brk fr row u, rfl, ?_⟩
      have hs := chain_step (row := row) fo u0 hu
      cases hb : brk fr row u with
      | true =>
        rw [hb] at hs
        have ec : chain fr row t = some (acc ++ [(u : Int)]) := by
          rw [he, hs]
          rfl
        exact iteT ⟨_, rfl, q1 _ ec _ l s2 nl hl2⟩
      | false =>
        rw [hb] at hs
        obtain ⟨x, ex, x0, xl, xu⟩ := fo.at u0 hu
        refine iteF ⟨_, rfl, _, rfl, a, fr, u, x, rfl, ha.same s2, u0, ex, ?_⟩
        refine ⟨up fr u, up_lt fo u0 hu, acc ++ [(u : Int)], by rw [xu]; rfl, by have := up_lt fo u0 hu; omega, s2, hl2, ?_, ?_⟩
        · have := up_lt fo u0 hu
          simp
          omega
        · rw [he, hs]
          exact map_some_app
    · rw [decide_eq_false h0]
      have u0 : u = 0 := by omega
      subst u0
      refine iteF (q0 ?_ _ s1)
      rw [he, chain_zero]
      rfl
def spCopyI : Sp := fun vs H Q _ => ∃ i : Int, vs = [.int i] ∧ Q (.int i) H
def spCopyL : Sp := fun vs H Q _ => ∃ (a : Addr) (ns : List Int), vs = [.ref a] ∧ LsAt H a ns ∧ ns.length ≤ 5000 ∧ ∀ (H' : Hp) (l : Addr), Same H H' → H l = none → LsAt H' l ns → Q (.ref l) H'
theorem small5000 {n : Nat} (h : n ≤ 5000) : n < sizeLine := Nat.lt_of_le_of_lt h (by decide)
theorem ivs_of {ns : List Int} {i : Nat} {x : V} (h : (ns.map V.int)[i]? = some x) : ∃ z, x = .int z ∧ ns[i]? = some z := by
  rw [List.getElem?_map] at h
  cases e : ns[i]? with
  | none =>
    rw [e] at h
    cases h
  | some z =>
    rw [e] at h
    exact ⟨z, (Option.some.inj h).symm, rfl⟩
theorem bl_of {b : Bool} (h : b = true) : V.bl b = V.bl true := by rw [h]
theorem all_true : ∀ n : Nat, (List.replicate n true).all id = true
  | 0 => rfl
  | n + 1 => by
    rw [List.replicate_succ]
    simp
/-- what a question of an answer about a row is asked with -/
structure Asked (H : Hp) (a : Addr) (fr : List Int) (p : Addr) (row : List Cell) (t : Nat) : Prop where
  ha : LsAt H a fr
  fo : FrOk fr
  hp : RowAt H p row
  ro : RowOk fr row
  ht : t ≤ fr.length
theorem Asked.same {H H' : Hp} (s : Same H H') {a : Addr} {fr : List Int} {p : Addr} {row : List Cell} {t : Nat} (h : Asked H a fr p row t) : Asked H' a fr p row t := ⟨h.ha.same s, h.fo, h.hp.same s, h.ro, h.ht⟩
def spFreshShows : Sp := fun vs H Q _ => ∃ (y a : Addr) (fr : List Int) (p : Addr) (row : List Cell) (t : Nat), vs = [.ref y, .ref a, .ref p, .int (t : Int)] ∧ Asked H a fr p row t ∧ ∀ H' : Hp, Same H H' → Q (.bl (decide (chain fr row t = none))) H'
def cfs (l : Addr) : List (Str × V) := [("chain", .ref l)]
def spOldInit (C : Addr) : Sp := fun vs H Q _ => ∃ (y dy a : Addr) (ns : List Int), vs = [.ref y, .ref a] ∧ H y = some (.ins C dy []) ∧ LsAt H a ns ∧ ns.length ≤ 5000 ∧
  ∀ (H' : Hp) (l : Addr), H l = none → LsAt H' l ns → H' y = some (.ins C dy (cfs l)) → (∀ b o, H b = some o → b ≠ y → H' b = some o) → Q .non H'
/-- an Old at y, its chain the list at l -/
structure OldAt (C : Addr) (H : Hp) (y l : Addr) (ns : List Int) : Prop where
  ob : ∃ dy, H y = some (.ins C dy (cfs l))
  ls : LsAt H l ns
theorem OldAt.same {C : Addr} {H H' : Hp} (s : Same H H') {y l : Addr} {ns : List Int} (h : OldAt C H y l ns) : OldAt C H' y l ns := ⟨let ⟨d, e⟩ := h.ob; ⟨d, s _ _ e⟩, h.ls.same s⟩
def spOldShows (C : Addr) : Sp := fun vs H Q _ => ∃ (y a : Addr) (fr : List Int) (p : Addr) (row : List Cell) (t : Nat) (l : Addr) (ns : List Int), vs = [.ref y, .ref a, .ref p, .int (t : Int)] ∧ Asked H a fr p row t ∧ OldAt C H y l ns ∧ ns.length ≤ 5000 ∧
  ∀ H' : Hp, Same H H' → Q (.bl (decide (chain fr row t = some ns))) H'
theorem cfs_at (l : Addr) : (cfs l).lookup ("chain" : Str) = some (.ref l) := by
  unfold cfs
  simp [List.lookup]
def spCellAt (K : PySem.W.Frag) : Sp := fun vs H Q _ => ∃ (a : Addr) (ns : List Int) (k : Int), vs = [.ref a, .int k] ∧ SqL K H a (ns.map V.int) ∧ 0 ≤ k ∧ ∀ z : Int, Q (.int z) H
theorem sc_law_cell_at : FnScope ["_law_script", "_law_k"] ["_law_script", "_law_k"] (defScope s_law_cell_at) := ⟨rfl, rfl, rfl, by decide +kernel, rfl, by decide +kernel, by decide +kernel⟩
theorem c_law_cell_at {P : Program} {w : World} {K : PySem.W.Frag} {mg : Str → Option Value} {base : Heap} (T : Tx K mg) : C8.Cal P w K mg base 1 "_law_cell_at" (spCellAt K) [] := by
  refine calD T.F_law_cell_at T.g_law_cell_at (fun _ _ _ _ _ _ us hl => match us, hl with | [_, _], _ => rfl) sc_law_cell_at (fun vs H Q E h => ?_) (fun cdv A outer s H vs Q E hr h => ?_)
  · obtain ⟨a, ns, k, rfl, _⟩ := h
    rfl
  · obtain ⟨a, ns, k, rfl, ha, h0, q⟩ := h
    refine ⟨_, (pss_cons (ps_if (pt_cmpR op_lt (pv 1) (pe_callB call_len_seq (by rfl) T.f_len (by decide +kernel) (pa_cons (pv 0) pa_nil)) (nomark _))
      (pss_one (ps_ret (pe_ix ix_list (pv 0) (pv 1) (fun _ _ => rfl))))
      pss_nil)
    (pss_one (ps_ret pe_int))), ?_⟩
    refine ⟨_, rfl, _, rfl, a, _, rfl, .inl ha, _, _, rfl, rfl, decide (k < ((ns.map V.int).length : Int)), rfl, ?_⟩
    by_cases h : k < ((ns.map V.int).length : Int)
    · rw [decide_eq_true h]
      have hl : k.toNat < ns.length := by
        rw [List.length_map] at h
        omega
      exact iteT ⟨_, rfl, _, rfl, a, _, _, _, rfl, rfl, ha, at_of (j := k.toNat) (by omega) (ivs (List.getElem?_eq_getElem hl)), q _⟩
    · rw [decide_eq_false h]
      exact iteF (q 0)
def prims : List Int := [1000003, 1000033, 1000037, 1000039, 1000081, 1000099, 1000117, 1000121, 1000133, 1000151, 1000159, 1000171, 1000183, 1000187, 1000193, 1000199]
theorem prims_at : ∀ j : Nat, j < 16 → ∃ p : Int, prims[j]? = some p ∧ p ≠ 0 := by
  intro j hj
  have h : ∀ j : _root_.Fin 16, ∃ p : Int, prims[j.val]? = some p ∧ p ≠ 0 := by
    intro j
    have e : j.val < prims.length := j.isLt
    refine ⟨prims[j.val], List.getElem?_eq_getElem e, ?_⟩
    revert j
    decide
  exact h ⟨j, hj⟩
theorem fmod_lo {x m : Int} (h : 0 < m) : 0 ≤ x.fmod m := by
  rw [Int.fmod_eq_emod_of_nonneg _ (by omega)]
  exact Int.emod_nonneg _ (by omega)
theorem fmod_hi {x m : Int} (h : 0 < m) : x.fmod m < m := by
  rw [Int.fmod_eq_emod_of_nonneg _ (by omega)]
  exact Int.emod_lt_of_pos _ h
def spDraw : Sp := fun vs H Q _ => ∃ (c k m : Int), vs = [.int c, .int k, .int m] ∧ 0 < m ∧ ∀ (H' : Hp) (z : Int), Same H H' → 0 ≤ z → z < m → Q (.int z) H'
theorem sc_law_draw : FnScope ["_law_cell", "_law_k", "_law_most", "_law_primes"] ["_law_cell", "_law_k", "_law_most"] (defScope s_law_draw) := ⟨rfl, rfl, rfl, by decide +kernel, rfl, by decide +kernel, by decide +kernel⟩
theorem c_law_draw {P : Program} {w : World} {K : PySem.W.Frag} {mg : Str → Option Value} {base : Heap} (T : Tx K mg) : C8.Cal P w K mg base 1 "_law_draw" (spDraw) [] := by
  refine calD T.F_law_draw T.g_law_draw (fun _ _ _ _ _ _ us hl => match us, hl with | [_, _, _], _ => rfl) sc_law_draw (fun vs H Q E h => ?_) (fun cdv A outer s H vs Q E hr h => ?_)
  · obtain ⟨c, k, m, rfl, _⟩ := h
    rfl
  · obtain ⟨c, k, m, rfl, h0, q⟩ := h
    refine ⟨_, (pss_cons (ps_set (i := 3) sc_law_draw.nd rfl (Or.inl rfl) (pe_tup (pa_cons pe_int (pa_cons pe_int (pa_cons pe_int (pa_cons pe_int (pa_cons pe_int (pa_cons pe_int (pa_cons pe_int (pa_cons pe_int (pa_cons pe_int (pa_cons pe_int (pa_cons pe_int (pa_cons pe_int (pa_cons pe_int (pa_cons pe_int (pa_cons pe_int (pa_cons pe_int pa_nil))))))))))))))))))
    (pss_one (ps_ret (pe_op op_modN (pe_op op_modN (pe_op op_add (pe_op op_mul (pv 0) pe_int) (pe_op op_mul (pv 1) pe_int)) (pe_ix ix_tup (pv 3) (pe_op op_modN (pv 1) pe_int) (fun _ _ => rfl))) (pv 2))))), ?_⟩
    refine ⟨(by show 16 ≤ sizeLine; decide), fun p np => ?_⟩
    have hk0 : 0 ≤ k.fmod 16 := fmod_lo (by decide)
    have hk1 : k.fmod 16 < 16 := fmod_hi (by decide)
    obtain ⟨y, ey, ny⟩ := prims_at (k.fmod 16).toNat (by omega)
    refine ⟨_, rfl, _, _, rfl, rfl, .inr ⟨by decide, by decide⟩, _, rfl, _, _, rfl, rfl, .inr ⟨by decide, by decide⟩, _, _, rfl, rfl, _, rfl, _, rfl, _, _, rfl, rfl, (show (16 : Int) ≠ 0 by decide), p, prims.map V.int, _, V.int y, rfl, rfl, SqT.of upd_same, at_of (j := (k.fmod 16).toNat) (by show k.fmod 16 = _; omega) (ivs ey), _, _, rfl, rfl, ny, _, rfl, _, _, rfl, rfl, by omega, ?_⟩
    exact q _ _ (same_upd np) (fmod_lo h0) (fmod_hi h0)
def spNumber : Sp := fun vs H Q _ => ∃ (c k m : Int), vs = [.int c, .int k, .int m] ∧ 0 ≤ k ∧ k ≤ 1000 ∧ 0 < m ∧ m ≤ 100000000000000000000 ∧ ∀ (H' : Hp) (z : Int), Same H H' → 0 ≤ z → z < m → Q (.int z) H'
def sevens : List Int := [1, 7, 49, 343, 2401]
theorem sevens_at : ∀ j : Nat, j < 5 → ∃ p : Int, sevens[j]? = some p ∧ 1 ≤ p ∧ p ≤ 2401 := by
  intro j hj
  have h : ∀ j : _root_.Fin 5, ∃ p : Int, sevens[j.val]? = some p ∧ 1 ≤ p ∧ p ≤ 2401 := by
    intro j
    have e : j.val < sevens.length := j.isLt
    refine ⟨sevens[j.val], List.getElem?_eq_getElem e, ?_⟩
    revert j
    decide
  exact h ⟨j, hj⟩
theorem e18 : (10 : Int) ^ ((18 : Int).toNat) = 1000000000000000000 := by decide
theorem mul_big {c k : Int} (h1 : -1000000000000000000 ≤ c) (h2 : c < 1000811284336359577647248616306026718125307353262274591) (k0 : 0 ≤ k) (k1 : k ≤ 1000) : CMulW (c + 977 * k) (c + 31 * k + 5) := by
  have p : (2 : Nat) ^ 200 = 1606938044258990275541962092341162602522202993782792835301376 := by decide
  refine wide_mul (a := 200) (b := 200) ?_ ?_ (by decide) (by decide) (by decide)
  · rw [p]
    omega
  · rw [p]
    omega
theorem fdiv_in {x d m : Int} (hd : 1 ≤ d) (hm : 0 < m) (h0 : 0 ≤ x) (h1 : x < d * m) : 0 ≤ x.fdiv d ∧ x.fdiv d < m := by
  rw [Int.fdiv_eq_ediv_of_nonneg _ (by omega)]
  exact ⟨Int.ediv_nonneg h0 (by omega), Int.ediv_lt_of_lt_mul (by omega) (by rw [Int.mul_comm]; exact h1)⟩
theorem sc_law_number : FnScope ["_law_cell", "_law_k", "_law_limit", "_law_d"] ["_law_cell", "_law_k", "_law_limit"] (defScope s_law_number) := ⟨rfl, rfl, rfl, by decide +kernel, rfl, by decide +kernel, by decide +kernel⟩
theorem c_law_number {P : Program} {w : World} {K : PySem.W.Frag} {mg : Str → Option Value} {base : Heap} (T : Tx K mg) : C8.Cal P w K mg base 2 "_law_number" (spNumber) [] := by
  refine calD T.F_law_number T.g_law_number (fun _ _ _ _ _ _ us hl => match us, hl with | [_, _, _], _ => rfl) sc_law_number (fun vs H Q E h => ?_) (fun cdv A outer s H vs Q E hr h => ?_)
  · obtain ⟨c, k, m, rfl, _⟩ := h
    rfl
  · obtain ⟨c, k, m, rfl, k0, k1, m0, m1, q⟩ := h
    refine ⟨_, (pss_cons (ps_if (pt_cmpR op_ge (pv 0) (pe_op op_pow pe_int pe_int) (nomark _))
      (pss_cons (ps_set (i := 3) sc_law_number.nd rfl (Or.inl rfl) (pe_ix ix_tup (pe_tup (pa_cons pe_int (pa_cons pe_int (pa_cons pe_int (pa_cons pe_int (pa_cons pe_int pa_nil)))))) (pe_op op_modN (pv 1) pe_int) (fun _ _ => rfl)))
      (pss_one (ps_ret (pe_op op_fdivN (pe_op op_modN (pe_op op_sub (pv 0) (pe_op op_pow pe_int pe_int)) (pe_op op_mul (pv 3) (pv 2))) (pv 3)))))
      pss_nil)
    (pss_cons (ps_if (pt_cmpR op_lt (pv 0) (pe_un un_neg (pe_op op_pow pe_int pe_int)) (nomark _))
      (pss_one (ps_set (i := 0) sc_law_number.nd rfl (Or.inl rfl) (pe_op op_modN (pv 0) pe_int)))
      pss_nil)
    (pss_one (ps_ret (pe_op op_modN (C8.pe_c (c_law_draw T) hr (by decide) rfl (pa_cons (pe_op op_mulW (pe_op op_add (pv 0) (pe_op op_mul pe_int (pv 1))) (pe_op op_add (pe_op op_add (pv 0) (pe_op op_mul pe_int (pv 1))) pe_int)) (pa_cons (pe_op op_add (pe_op op_modN (pv 1) pe_int) pe_int) (pa_cons pe_int pa_nil)))) (pv 2)))))), ?_⟩
    refine ⟨_, rfl, _, _, rfl, rfl, ⟨by decide, by decide, by decide⟩, _, _, rfl, rfl, decide ((10 : Int) ^ ((18 : Int).toNat) ≤ c), rfl, ?_⟩
    rw [e18]
    by_cases h : 1000000000000000000 ≤ c
    · rw [decide_eq_true h]
      refine iteT ⟨(by show 5 ≤ sizeLine; decide), fun p np => ?_⟩
      have hk0 : 0 ≤ k.fmod 5 := fmod_lo (by decide)
      have hk1 : k.fmod 5 < 5 := fmod_hi (by decide)
      obtain ⟨d, ed, d0, d1⟩ := sevens_at (k.fmod 5).toNat (by omega)
      refine ⟨_, rfl, _, _, rfl, rfl, (show (5 : Int) ≠ 0 by decide), p, sevens.map V.int, _, V.int d, rfl, rfl, SqT.of upd_same, at_of (j := (k.fmod 5).toNat) (by show k.fmod 5 = _; omega) (ivs ed), ?_⟩
      have dm : 0 < d * m := Int.mul_pos (by omega) m0
      refine ⟨_, rfl, _, _, rfl, rfl, ⟨by decide, by decide, by decide⟩, _, _, rfl, rfl, _, rfl, _, rfl, _, _, rfl, rfl, .inl ⟨by omega, by omega⟩, _, _, rfl, rfl, by omega, _, rfl, _, _, rfl, rfl, ⟨by omega, by omega⟩, ?_⟩
      obtain ⟨z0, z1⟩ := fdiv_in (x := (c - (10 : Int) ^ ((18 : Int).toNat)).fmod (d * m)) d0 m0 (fmod_lo dm) (fmod_hi dm)
      exact q _ _ (same_upd np) z0 z1
    · rw [decide_eq_false h]
      refine iteF ⟨_, rfl, _, _, rfl, rfl, ⟨by decide, by decide, by decide⟩, _, rfl, _, _, rfl, rfl, decide (c < -((10 : Int) ^ ((18 : Int).toNat))), rfl, ?_⟩
      rw [e18]
      have go : ∀ c' : Int, -1000000000000000000 ≤ c' → c' < 1000811284336359577647248616306026718125307353262274591 → CMulW (c' + 977 * k) (c' + 31 * k + 5) := fun c' h1 h2 => mul_big h1 h2 k0 k1
      have fin : ∀ (z : Int) (H' : Hp), Same H H' → Q (.int (z.fmod m)) H' := fun z H' s => q H' _ s (fmod_lo m0) (fmod_hi m0)
      by_cases h2 : c < -1000000000000000000
      · rw [decide_eq_true h2]
        refine iteT ⟨_, rfl, _, _, rfl, rfl, (show (1000811284336359577647248616306026718125307353262274591 : Int) ≠ 0 by decide), ?_⟩
        have b0 : 0 ≤ c.fmod 1000811284336359577647248616306026718125307353262274591 := fmod_lo (by decide)
        have b1 : c.fmod 1000811284336359577647248616306026718125307353262274591 < 1000811284336359577647248616306026718125307353262274591 := fmod_hi (by decide)
        refine ⟨_, rfl, _, rfl, _, _, rfl, rfl, .inl ⟨by decide, by decide⟩, _, _, rfl, rfl, _, rfl, _, rfl, _, _, rfl, rfl, .inl ⟨by decide, by decide⟩, _, _, rfl, rfl, _, _, rfl, rfl, _, _, rfl, rfl, go _ (by omega) b1, _, rfl, _, _, rfl, rfl, (show (9 : Int) ≠ 0 by decide), _, _, rfl, rfl, _, _, _, rfl, by decide, fun H1 z s1 z0 z1 => ?_⟩
        exact ⟨_, rfl, _, _, rfl, rfl, by omega, fin z H1 s1⟩
      · rw [decide_eq_false h2]
        refine iteF ?_
        refine ⟨_, rfl, _, rfl, _, _, rfl, rfl, .inl ⟨by decide, by decide⟩, _, _, rfl, rfl, _, rfl, _, rfl, _, _, rfl, rfl, .inl ⟨by decide, by decide⟩, _, _, rfl, rfl, _, _, rfl, rfl, _, _, rfl, rfl, go _ (by omega) (by omega), _, rfl, _, _, rfl, rfl, (show (9 : Int) ≠ 0 by decide), _, _, rfl, rfl, _, _, _, rfl, by decide, fun H1 z s1 z0 z1 => ?_⟩
        exact ⟨_, rfl, _, _, rfl, rfl, by omega, fin z H1 s1⟩

def spLawFroms (K : PySem.W.Frag) : Sp := fun vs H Q _ => ∃ (a : Addr) (ns : List Int) (b : Int), vs = [.ref a, .int b] ∧ SqL K H a (ns.map V.int) ∧ 0 ≤ b ∧ b ≤ 100 ∧ ∀ (H' : Hp) (l : Addr) (fr : List Int), Same H H' → H l = none → LsAt H' l fr → FrOk fr → Q (.ref l) H'
theorem sc_law_froms : FnScope ["_law_script", "_law_by", "_law_cell", "_law_kind", "_law_found", "_law_at"] ["_law_script", "_law_by"] (defScope s_law_froms) := ⟨rfl, rfl, rfl, by decide +kernel, rfl, by decide +kernel, by decide +kernel⟩
theorem c_law_froms {P : Program} {w : World} {K : PySem.W.Frag} {mg : Str → Option Value} {base : Heap} (T : Tx K mg) : C8.Cal P w K mg base 3 "_law_froms" (spLawFroms K) [] := by
  refine calD T.F_law_froms T.g_law_froms (fun _ _ _ _ _ _ us hl => match us, hl with | [_, _], _ => rfl) sc_law_froms (fun vs H Q E h => ?_) (fun cdv A outer s H vs Q E hr h => ?_)
  · obtain ⟨a, ns, b, rfl, _⟩ := h
    rfl
  · obtain ⟨a, ns, b, rfl, hS, b0, b1, q⟩ := h
    refine ⟨_, (pss_cons (ps_set (i := 2) sc_law_froms.nd rfl (Or.inl rfl) (C8.pe_c (c_law_cell_at T) hr (by decide) rfl (pa_cons (pv 0) (pa_cons (pv 1) pa_nil))))
    (pss_cons (ps_par (i := 3) (j := 4) (by rfl) sc_law_froms.nd rfl rfl (by decide) rfl rfl (pa_cons (C8.pe_c (c_law_number T) hr (by decide) rfl (pa_cons (pv 2) (pa_cons (pe_op op_add (pv 1) pe_int) (pa_cons pe_int pa_nil)))) (pa_cons (pe_lst pa_nil) pa_nil)) (by rfl))
    (pss_cons (ps_for PassesOwn.never rfl (pi_range1 (by rfl) T.f_range (pa_cons (pe_op op_add pe_int (C8.pe_c (c_law_number T) hr (by decide) rfl (pa_cons (pv 2) (pa_cons (pe_op op_add (pv 1) pe_int) (pa_cons pe_int pa_nil))))) pa_nil)) (pg_name (i := 5) sc_law_froms.nd rfl (Or.inl rfl))
      (pss_one (ps_expr (pe_bm PySem.F.plainAttrs_list PySem.F.slot_list_append PySem.F.type_list_append mt_append (pv 4) (pa_cons (pe_ix ix_tup (pe_tup (pa_cons (pv 5) (pa_cons pe_int (pa_cons (C8.pe_c (c_law_number T) hr (by decide) rfl (pa_cons (pe_op op_add (pv 2) (pe_op op_mul pe_int (pv 5))) (pa_cons (pe_op op_add (pv 5) pe_int) (pa_cons (pe_op op_add (pv 5) pe_int) pa_nil)))) pa_nil)))) (pv 3) (fun _ _ => rfl)) pa_nil)))))
    (pss_one (ps_ret (pv 4)))))), ?_⟩
    refine ⟨_, rfl, _, rfl, a, ns, b, rfl, hS, b0, fun cz => ?_⟩
    refine ⟨_, rfl, _, rfl, _, _, rfl, rfl, _, _, _, rfl, by omega, by omega, by decide, by decide, fun H1 kd s1 k0 k1 => ⟨Nat.zero_le _, fun l nl => ⟨_, _, rfl, ?_⟩⟩⟩
    have nl0 : H l = none := s1.free nl
    have s2 : Same H (upd H1 l (.lst [])) := s1.trans (same_upd nl)
    have hl2 : LsAt (upd H1 l (.lst [])) l [] := upd_same
    refine ⟨_, rfl, _, rfl, _, _, rfl, rfl, _, _, _, rfl, by omega, by omega, by decide, by decide, fun H3 z s3 z0 z1 => ⟨_, _, rfl, rfl, _, rfl, by omega, by omega, ?_⟩⟩
    refine for_range (lo := 0) (n := (1 + z).toNat) (fun i σ H4 => ∃ (fr : List Int) (va : Option V), σ = [some (.ref a), some (.int b), some (.int cz), some (.int kd), some (.ref l), va] ∧ Same H H4 ∧ LsAt H4 l fr ∧ fr.length = i ∧ ∀ (j : Nat) (x : Int), fr[j]? = some x → 0 ≤ x ∧ x ≤ (j : Int))
      ⟨[], none, rfl, s2.trans s3, hl2.same s3, rfl, fun j x e => by simp at e⟩ ?_ ?_
    · rintro i σ H4 hi ⟨fr, va, rfl, s4, hl, hn, he⟩
      refine ⟨_, rfl, .inl ⟨rfl, _, SqL.of hl⟩, _, rfl, _, rfl, _, rfl, _, _, rfl, rfl, .inl ⟨by decide, by decide⟩, _, _, rfl, rfl, _, rfl, _, _, rfl, rfl, _, rfl, _, _, rfl, rfl, _, _, _, rfl, by omega, by omega, by omega, by omega, fun H5 x s5 x0 x1 => ⟨(by show 3 ≤ sizeLine; decide), fun p np => ?_⟩⟩
      have hl5 : LsAt (upd H5 p (.tup [V.int (0 + (i : Int)), V.int 0, V.int x])) l fr := (hl.same s5).same (same_upd np)
      have fin : ∀ y : Int, 0 ≤ y → y ≤ (i : Int) → ∃ (fr' : List Int) (va : Option V), [some (V.ref a), some (V.int b), some (V.int cz), some (V.int kd), some (V.ref l), some (V.int (0 + (i : Int)))] = [some (V.ref a), some (V.int b), some (V.int cz), some (V.int kd), some (V.ref l), va] ∧
          Same H (upd (upd H5 p (.tup [V.int (0 + (i : Int)), V.int 0, V.int x])) l (.lst (fr.map V.int ++ [V.int y]))) ∧ LsAt (upd (upd H5 p (.tup [V.int (0 + (i : Int)), V.int 0, V.int x])) l (.lst (fr.map V.int ++ [V.int y]))) l fr' ∧ fr'.length = i + 1 ∧ ∀ (j : Nat) (x : Int), fr'[j]? = some x → 0 ≤ x ∧ x ≤ (j : Int) := by
        intro y y0 y1
        refine ⟨fr ++ [y], _, rfl, Same.chg ((s4.trans s5).trans (same_upd np)) nl0, ?_, by rw [List.length_append, hn]; rfl, ?_⟩
        · unfold LsAt
          rw [upd_same, List.map_append]
          rfl
        · intro j v e
          by_cases hj : j < fr.length
          · rw [List.getElem?_append_left hj] at e
            exact he j v e
          · rw [List.getElem?_append_right (by omega)] at e
            have ej : j - fr.length = 0 := by
              by_cases z : j - fr.length = 0
              · exact z
              · have : j - fr.length = (j - fr.length - 1) + 1 := by omega
                rw [this] at e
                simp at e
            rw [ej] at e
            cases (Option.some.inj e)
            exact ⟨y0, by omega⟩
      obtain ⟨y, ey, y0, y1⟩ : ∃ y : Int, [V.int (0 + (i : Int)), V.int 0, V.int x][kd.toNat]? = some (V.int y) ∧ 0 ≤ y ∧ y ≤ (i : Int) := by
        have hk : kd = 0 ∨ kd = 1 ∨ kd = 2 := by omega
        rcases hk with rfl | rfl | rfl
        · exact ⟨_, rfl, by omega, by omega⟩
        · exact ⟨_, rfl, by omega, by omega⟩
        · exact ⟨_, rfl, by omega, by omega⟩
      have hz : (fr.map V.int).length < sizeLine := by
        rw [List.length_map]
        exact small1000 (by omega)
      refine ⟨_, rfl, p, _, _, V.int y, rfl, rfl, SqT.of upd_same, at_of (j := kd.toNat) (by omega) ey, l, _, _, rfl, rfl, hl5, hz, ?_⟩
      exact fin y y0 y1
    · rintro σ H4 ⟨fr, va, rfl, s4, hl, hn, he⟩
      exact ⟨_, rfl, q H4 l fr s4 nl0 hl ⟨by omega, by omega, he⟩⟩
theorem brk_cases {H : Hp} {fr : List Int} {row : List Cell} {vs : List V} {t : Nat} (fo : FrOk fr) (ro : RowOk fr row) (hc : Cells H vs row) (h0 : 0 < t) (h1 : t ≤ fr.length) : ∃ v1 v2, vs[t]? = some v1 ∧ vs[up fr t]? = some v2 ∧
    ((v1 = .non ∧ brk fr row t = true) ∨ (∃ p1, v1 = .ref p1 ∧ v2 = .non ∧ brk fr row t = true) ∨
      ∃ p1 p2 n1 m1 n2 b2, v1 = .ref p1 ∧ v2 = .ref p2 ∧ H p1 = some (.tup [.int n1, .int m1]) ∧ H p2 = some (.tup [.int n2, oV b2]) ∧ brk fr row t = !decide (m1 = n2)) := by
  have hl1 : t < row.length := by rw [ro.len]; omega
  have hl2 : up fr t < row.length := by
    have := up_lt fo h0 h1
    rw [ro.len]
    omega
  obtain ⟨v1, e1, c1⟩ := hc.each t row[t] (List.getElem?_eq_getElem hl1)
  obtain ⟨v2, e2, c2⟩ := hc.each (up fr t) row[up fr t] (List.getElem?_eq_getElem hl2)
  have g1 : row.getD t none = row[t] := getD_of (List.getElem?_eq_getElem hl1)
  have g2 : row.getD (up fr t) none = row[up fr t] := getD_of (List.getElem?_eq_getElem hl2)
  refine ⟨v1, v2, e1, e2, ?_⟩
  unfold brk
  rw [g1, g2]
  cases q1 : row[t] with
  | none =>
    rw [q1] at c1
    exact .inl ⟨c1, rfl⟩
  | some c =>
    obtain ⟨n1, b1⟩ := c
    rw [q1] at c1
    obtain ⟨p1, rfl, k1⟩ := c1
    cases q2 : row[up fr t] with
    | none =>
      rw [q2] at c2
      exact .inr (.inl ⟨p1, rfl, c2, rfl⟩)
    | some d =>
      obtain ⟨n2, b2⟩ := d
      rw [q2] at c2
      obtain ⟨p2, rfl, k2⟩ := c2
      obtain ⟨m1, m2, em, _, _⟩ : ∃ a b, (some (n1, b1) : Cell) = some (a, some b) ∧ 0 ≤ a ∧ 0 ≤ b := by
        have et : row[t - 1 + 1]? = some (some (n1, b1)) := by
          rw [show t - 1 + 1 = t by omega, List.getElem?_eq_getElem hl1, q1]
        rcases ro.each (t - 1) _ et with z | z
        · cases z
        · exact z
      cases em
      refine .inr (.inr ⟨p1, p2, n1, m2, n2, b2, rfl, rfl, k1, k2, ?_⟩)
      show (!decide (some m2 = some n2)) = !decide (m2 = n2)
      by_cases z : m2 = n2
      · subst z
        simp
      · simp [z]
def spLawChain : Sp := fun vs H Q _ => ∃ (a : Addr) (fr : List Int) (p : Addr) (row : List Cell) (t : Nat), vs = [.ref a, .ref p, .int (t : Int)] ∧ Asked H a fr p row t ∧
  ∀ (H' : Hp) (l : Addr), Same H H' → H l = none → LsAt H' l ((chain fr row t).getD []) → Q (.ref l) H'
theorem dec_ne {x y : Int} : (!decide (V.int x = V.int y)) = !decide (y = x) := by
  by_cases z : x = y
  · subst z
    simp
  · have z1 : ¬ V.int x = V.int y := fun e => z (V.int.inj e)
    have z2 : ¬ y = x := fun e => z e.symm
    rw [decide_eq_false z1, decide_eq_false z2]
theorem sc_law_chain : FnScope ["_law_froms_here", "_law_row_here", "_law_tongue", "_law_found", "_law_turn", "_law_above"] ["_law_froms_here", "_law_row_here", "_law_tongue"] (defScope s_law_chain) := ⟨rfl, rfl, rfl, by decide +kernel, rfl, by decide +kernel, by decide +kernel⟩
theorem c_law_chain {P : Program} {w : World} {K : PySem.W.Frag} {mg : Str → Option Value} {base : Heap} (T : Tx K mg) : C8.Cal P w K mg base 1 "_law_chain" (spLawChain) [] := by
  refine calD T.F_law_chain T.g_law_chain (fun _ _ _ _ _ _ us hl => match us, hl with | [_, _, _], _ => rfl) sc_law_chain (fun vs H Q E h => ?_) (fun cdv A outer s H vs Q E hr h => ?_)
  · obtain ⟨a, fr, p, row, t, rfl, _⟩ := h
    rfl
  · obtain ⟨a, fr, p, row, t, rfl, hA, q⟩ := h
    refine ⟨_, (pss_cons (ps_set (i := 3) sc_law_chain.nd rfl (Or.inl rfl) (pe_lst pa_nil))
    (pss_cons (ps_for PassesOwn.never rfl (pi_range1 (by rfl) T.f_range (pa_cons (pe_callB call_len_seq (by rfl) T.f_len (by decide +kernel) (pa_cons (pv 1) pa_nil)) pa_nil)) (pg_name (i := 4) sc_law_chain.nd rfl (Or.inl rfl))
      (pss_cons (ps_expr (pe_bm PySem.F.plainAttrs_list PySem.F.slot_list_append PySem.F.type_list_append mt_append (pv 3) (pa_cons (pv 2) pa_nil)))
      (pss_cons (ps_if (pt_cmpR op_eq (pv 2) pe_int (nomark _))
        (pss_one (ps_ret (pe_lst pa_nil)))
        pss_nil)
      (pss_cons (ps_set (i := 5) sc_law_chain.nd rfl (Or.inl rfl) (pe_ix ix_list (pv 0) (pe_op op_sub (pv 2) pe_int) (fun _ _ => rfl)))
      (pss_cons (ps_if (PW.pt (pw_or (pt_cmpR op_isN (pe_ix ix_list (pv 1) (pv 2) (fun _ _ => rfl)) pe_non (nomark _)) (pw_or (pt_cmpR op_isN (pe_ix ix_list (pv 1) (pv 5) (fun _ _ => rfl)) pe_non (nomark _)) (pw_or1 (pt_cmpR op_ne (pe_ix ix_tup (pe_ix ix_list (pv 1) (pv 5) (fun _ _ => rfl)) pe_int (fun _ _ => rfl)) (pe_ix ix_tup (pe_ix ix_list (pv 1) (pv 2) (fun _ _ => rfl)) pe_int (fun _ _ => rfl)) (nomark _))))))
        (pss_one (ps_ret (pv 3)))
        pss_nil)
      (pss_one (ps_set (i := 2) sc_law_chain.nd rfl (Or.inl rfl) (pv 5))))))))
    (pss_one (ps_ret (pe_lst pa_nil))))), ?_⟩
    have fo := hA.fo
    have ro := hA.ro
    have hi7 := fo.hi
    obtain ⟨vs, hv, hc⟩ := hA.hp
    have ha := hA.ha
    have hln : vs.length = fr.length + 1 := by rw [hc.len, ro.len]
    refine ⟨Nat.zero_le _, fun l nl => ?_⟩
    have s0 : Same H (upd H l (.lst [])) := same_upd nl
    refine ⟨_, rfl, p, _, rfl, .inl (SqL.of (s0 _ _ hv)), _, rfl, by omega, by omega, ?_⟩
    refine for_range (lo := 0) (n := ((vs.length : Int)).toNat) (fun k σ H1 => ∃ (u : Nat) (acc : List Int) (v4 v5 : Option V), σ = [some (.ref a), some (.ref p), some (.int (u : Int)), some (.ref l), v4, v5] ∧ u ≤ fr.length ∧ Same H H1 ∧ LsAt H1 l acc ∧ acc.length = k ∧ k + u ≤ t ∧ chain fr row t = (chain fr row u).map (acc ++ ·))
      ⟨t, [], none, none, rfl, hA.ht, s0, upd_same, rfl, by omega, by simp⟩ ?_ ?_
    · rintro k σ H1 hk ⟨u, acc, v4, v5, rfl, hu, s1, hl, hn, hku, he⟩
      have hz : acc.length < sizeLine := small1000 (by have := hA.ht; omega)
      refine ⟨_, rfl, .inl ⟨rfl, _, SqL.of hl⟩, _, rfl, l, _, _, rfl, rfl, hl, by rw [List.length_map]; exact hz, ?_⟩
      have s2 : Same H (upd H1 l (.lst (acc.map V.int ++ [V.int (u : Int)]))) := Same.chg s1 nl
      have hl2 : LsAt (upd H1 l (.lst (acc.map V.int ++ [V.int (u : Int)]))) l (acc ++ [(u : Int)]) := by
        unfold LsAt
        rw [upd_same, List.map_append]
        rfl
      generalize upd H1 l (.lst (acc.map V.int ++ [V.int (u : Int)])) = H2 at s2 hl2 ⊢
      refine ⟨_, rfl, rfl, decide (u = 0), ?_, ?_⟩
      · have : decide (V.int (u : Int) = V.int 0) = decide (u = 0) := by
          rw [dec_int]
          by_cases z : u = 0
          · subst z
            rfl
          · rw [decide_eq_false z]
            exact beq_eq_false_iff_ne.mpr (by omega)
        exact congrArg V.bl this
      by_cases u0 : u = 0
      · rw [decide_eq_true u0]
        subst u0
        refine iteT ⟨Nat.zero_le _, fun m nm => ?_⟩
        refine q _ m (s2.trans (same_upd nm)) (s2.free nm) ?_
        rw [he, chain_zero]
        exact upd_same
      · rw [decide_eq_false u0]
        have u1 : 0 < u := by omega
        obtain ⟨x, ex, x0, xl, xu⟩ := fo.at u1 hu
        refine iteF ⟨_, rfl, _, rfl, _, _, rfl, rfl, a, _, _, V.int x, rfl, rfl, SqL.of (ha.same s2), at_of (j := u - 1) (by omega) (ivs ex), ?_⟩
        have hv2 : H2 p = some (.lst vs) := s2 _ _ hv
        obtain ⟨w1, w2, e1, e2, hw⟩ := brk_cases fo ro hc u1 hu
        have hs := chain_step (row := row) fo u1 hu
        have back : brk fr row u = true → LsAt H2 l ((chain fr row t).getD []) := fun hb => by
          rw [hb] at hs
          rw [he, hs]
          exact hl2
        refine ⟨_, rfl, _, rfl, p, _, _, w1, rfl, rfl, SqL.of hv2, at_of (j := u) rfl e1, rfl, decide (w1 = .non), rfl, ?_⟩
        rcases hw with ⟨rfl, hb⟩ | ⟨p1, rfl, rfl, hb⟩ | ⟨p1, p2, n1, m1, n2, b2, rfl, rfl, k1, k2, hb⟩
        · rw [decide_eq_true rfl]
          exact iteT ⟨_, rfl, q H2 l s2 nl (back hb)⟩
        · rw [decide_eq_false (by intro z; cases z)]
          refine iteF ⟨_, rfl, _, rfl, p, _, _, .non, rfl, rfl, SqL.of hv2, at_of (j := up fr u) xu e2, rfl, true, bl_of (decide_eq_true rfl), iteT ⟨_, rfl, q H2 l s2 nl (back hb)⟩⟩
        · rw [decide_eq_false (by intro z; cases z)]
          refine iteF ⟨_, rfl, _, rfl, p, _, _, .ref p2, rfl, rfl, SqL.of hv2, at_of (j := up fr u) xu e2, rfl, false, by rw [decide_eq_false (by intro z; cases z)], iteF ?_⟩
          refine ⟨_, rfl, _, rfl, p, _, _, .ref p2, rfl, rfl, SqL.of hv2, at_of (j := up fr u) xu e2, p2, _, _, _, rfl, rfl, SqT.of (s2 _ _ k2), atI_nat (j := 0) rfl, _, rfl, _, rfl, p, _, _, .ref p1, rfl, rfl, SqL.of hv2, at_of (j := u) rfl e1, p1, _, _, _, rfl, rfl, SqT.of (s2 _ _ k1), atI_nat (j := 1) rfl, rfl, !decide (m1 = n2), congrArg V.bl dec_ne, ?_⟩
          cases hbb : brk fr row u with
          | true =>
            rw [← hb, hbb]
            exact iteT ⟨_, rfl, q H2 l s2 nl (back hbb)⟩
          | false =>
            rw [← hb, hbb]
            rw [hbb] at hs
            refine iteF ⟨_, rfl, up fr u, acc ++ [(u : Int)], _, _, by rw [xu]; rfl, by have := up_lt fo u1 hu; omega, s2, hl2, by rw [List.length_append, hn]; rfl, by have := up_lt fo u1 hu; omega, ?_⟩
            rw [he, hs]
            exact map_some_app
    · rintro σ H1 ⟨u, acc, v4, v5, rfl, hu, s1, hl, hn, hku, he⟩
      exfalso
      have := hA.ht
      omega
def spSays : Sp := fun vs H Q _ => ∃ b c : Bool, vs = [.bl b, .bl c] ∧ Q (.bl (decide (b = c))) H

end PD

namespace PD
open PySem PySem.Spec PyProof.Rows L2

/-! Phrasedesk, the desk of the law's own: texts, what stands, rows, all ever put -/
--# _law_text
def spText : Sp := fun vs H Q _ => ∃ n : Int, vs = [.int n] ∧ 0 ≤ n ∧ ∀ x : Str, TxOk x → Q (.str x) H
theorem sc_law_text : FnScope ["_law_number_here", "_law_letters", "_law_found", "_law_more", "_law_at"] ["_law_number_here"] (defScope s_law_text) := ⟨rfl, rfl, rfl, by decide +kernel, rfl, by decide +kernel, by decide +kernel⟩
theorem c_law_text {P : Program} {w : World} {K : PySem.W.Frag} {mg : Str → Option Value} {base : Heap} (T : Tx K mg) : C8.Cal P w K mg base 1 "_law_text" (spText) [] := by
  refine calD T.F_law_text T.g_law_text (fun _ _ _ _ _ _ us hl => match us, hl with | [_], _ => rfl) sc_law_text (fun vs H Q E h => ?_) (fun cdv A outer s H vs Q E hr h => ?_)
  · obtain ⟨n, rfl, _⟩ := h
    rfl
  · obtain ⟨n, rfl, n0, q⟩ := h
    refine ⟨_, (pss_cons (ps_par3 (i := 1) (j := 2) (l := 3) (by rfl) sc_law_text.nd rfl rfl rfl (by decide) (by decide) (by decide) rfl rfl rfl (pa_cons pe_str (pa_cons pe_str (pa_cons (pe_op op_fdivN (pv 0) pe_int) pa_nil))) (by rfl))
    (pss_cons (ps_for PassesOwn.never rfl (pi_range1 (by rfl) T.f_range (pa_cons (pe_op op_add pe_int (pe_op op_modN (pe_op op_fdivN (pv 0) pe_int) pe_int)) pa_nil)) (pg_name (i := 4) sc_law_text.nd rfl (Or.inl rfl))
      (pss_one (ps_set (i := 2) sc_law_text.nd rfl (Or.inl rfl) (pe_op op_add_str (pv 2) (pe_ix ix_str (pv 1) (pe_op op_modN (pe_op op_add (pe_op op_add (pe_op op_mul (pv 0) (pe_op op_add (pe_op op_mul pe_int (pv 4)) pe_int)) (pv 3)) (pv 4)) pe_int) (fun _ _ => rfl))))))
    (pss_one (ps_ret (pv 2))))), ?_⟩
    refine ⟨_, rfl, _, _, rfl, rfl, ⟨by decide, by decide⟩, _, _, _, rfl, ?_⟩
    have m0 : 0 ≤ (n.fdiv 26).fmod 6 := fmod_lo (by decide)
    have m1 : (n.fdiv 26).fmod 6 < 6 := fmod_hi (by decide)
    refine ⟨_, rfl, _, _, rfl, rfl, ⟨by decide, by decide⟩, _, _, rfl, rfl, (show (6 : Int) ≠ 0 by decide), _, _, rfl, rfl, _, rfl, by omega, by omega, ?_⟩
    generalize (n.fdiv 26).fmod 6 = m at m0 m1 ⊢
    refine for_range (lo := 0) (n := (1 + m).toNat) (fun i σ H4 => ∃ (x : Str) (va : Option V), σ = [some (.int n), some (.str "abcdefghijklmnopqrstuvwxyz"), some (.str x), some (.int (n.fdiv 156)), va] ∧ H4 = H ∧ x.length = i ∧ ∀ c ∈ x.cps.toList, 97 ≤ c ∧ c ≤ 122)
      ⟨Str.empty, none, rfl, rfl, rfl, fun c h => by cases h⟩ ?_ ?_
    · rintro i σ H4 hi ⟨x, va, rfl, rfl, hx, he⟩
      refine ⟨_, rfl, _, rfl, _, rfl, _, rfl, _, _, rfl, rfl, .inl ⟨by decide, by decide⟩, _, _, rfl, rfl, _, _, rfl, rfl, .inr ⟨by omega, by omega⟩, _, rfl, _, _, rfl, rfl, _, rfl, _, _, rfl, rfl, _, _, rfl, rfl, (show (26 : Int) ≠ 0 by decide), ?_⟩
      have k0 := fmod_lo (x := n * (2 * (0 + (i : Int)) + 1) + n.fdiv 156 + (0 + (i : Int))) (show (0 : Int) < 26 by decide)
      have k1 := fmod_hi (x := n * (2 * (0 + (i : Int)) + 1) + n.fdiv 156 + (0 + (i : Int))) (show (0 : Int) < 26 by decide)
      obtain ⟨k, hk⟩ : ∃ k, k = (n * (2 * (0 + (i : Int)) + 1) + n.fdiv 156 + (0 + (i : Int))).fmod 26 := ⟨_, rfl⟩
      rw [← hk] at k0 k1
      refine ⟨_, _, 97 + k.toNat, rfl, rfl, by decide, ?_, _, _, rfl, rfl, ?_, x ++ ⟨#[97 + k.toNat]⟩, _, rfl, rfl, ?_, ?_⟩
      · have z := atI_nat (az_at k.toNat (by omega))
        rw [show ((k.toNat : Nat) : Int) = k by omega, hk] at z
        rw [← hk] at z ⊢
        exact z
      · rw [hx]
        exact Nat.le_of_lt (small1000 (show i + 1 ≤ 1000 by omega))
      · rw [app_len, hx]
        rfl
      · intro c hc
        rw [app_cps] at hc
        rcases List.mem_append.mp hc with z | z
        · exact he c z
        · have : c = 97 + k.toNat := List.mem_singleton.mp z
          omega
    · rintro σ H4 ⟨x, va, rfl, rfl, hx, he⟩
      exact ⟨_, rfl, q x ⟨by omega, by omega, he⟩⟩
--# _law_new
def spNew : Sp := fun vs H Q _ => vs = [] ∧ ∀ (H' : Hp) (o l d : Addr), Same H H' → H o = none → H l = none → H d = none → Here H' o l d De.none → Q (.ref o) H'
theorem sc_law_new : FnScope [] [] (defScope s_law_new) := ⟨rfl, rfl, rfl, by decide +kernel, rfl, by decide +kernel, by decide +kernel⟩
theorem c_law_new {P : Program} {w : World} {K : PySem.W.Frag} {mg : Str → Option Value} {base : Heap} (T : Tx K mg) : C8.Cal P w K mg base 1 "_law_new" (spNew) [] := by
  refine calD T.F_law_new T.g_law_new (fun _ _ _ _ _ _ us hl => match us, hl with | [], _ => rfl) sc_law_new (fun vs H Q E h => ?_) (fun cdv A outer s H vs Q E hr h => ?_)
  · obtain ⟨rfl, _⟩ := h
    rfl
  · obtain ⟨rfl, q⟩ := h
    refine ⟨_, (pss_one (ps_ret (pe_disp (pps_cons pe_str pe_int (pps_cons pe_str (pe_lst pa_nil) (pps_cons pe_str pe_dnewT pps_nil))) (by rfl) (by rfl) (fun z => by cases z) (by decide)))), ?_⟩
    refine fun o no => ⟨Nat.zero_le _, fun l nl d nd => ?_⟩
    have s1 : Same H (upd H o (.dK [])) := same_upd no
    have s2 := s1.trans (same_upd nl (o := .lst []))
    have s3 := s2.trans (same_upd nd (o := .dT []))
    have h0 : (upd (upd (upd H o (.dK [])) l (.lst [])) d (.dT [])) o = some (.dK []) := same_upd nd _ _ (same_upd nl _ _ upd_same)
    have h1 : (upd (upd (upd H o (.dK [])) l (.lst [])) d (.dT [])) l = some (.lst []) := same_upd nd _ _ upd_same
    have h2 : (upd (upd (upd H o (.dK [])) l (.lst [])) d (.dT [])) d = some (.dT []) := upd_same
    generalize upd (upd (upd H o (.dK [])) l (.lst [])) d (.dT []) = H3 at s3 h0 h1 h2 ⊢
    refine ⟨h0, [(kP, .int 0), (kU, .ref l), (kL, .ref d)], rfl, (show 3 ≤ 15 by decide), ?_⟩
    refine q (upd H3 o (.dK (topK 0 l d))) o l d (Same.chg s3 no) no (s1.free nl) (s2.free nd) ⟨upd_same, ⟨[], ?_, All2.nil⟩, ⟨[], ?_, Nat.zero_le _, fun _ _ => rfl⟩, Nat.zero_le _, fun _ _ => Nat.le_refl _⟩
    · rw [upd_ne (ne_of h1 h0 (fun z => nomatch z))]
      exact h1
    · rw [upd_ne (ne_of h2 h0 (fun z => nomatch z))]
      exact h2
--# _law_now
theorem lieOf {H : Hp} {o l d : Addr} {S : De} (h : Here H o l d S) (p t : Nat) {b : Addr} (hb : H b = some (.tup ((ty p t).map kV))) : ∃ r, DGet H d (.ref b) r ∧ LieV H l r (S.lie p t) := by
  obtain ⟨kvs, h1, _, h2⟩ := h.lie
  exact ⟨_, DGet.t h1 hb, h2 p t⟩
theorem Here.isD {H : Hp} {o l d : Addr} {S : De} (h : Here H o l d S) : IsD H d := let ⟨kvs, h1, _, _⟩ := h.lie; .inr ⟨kvs, .inl h1⟩
theorem last_at {ns : List Int} {k : Int} (h : ns.getLast? = some k) : atI (ns.map V.int) (-1) = some (V.int k) := by
  obtain ⟨ys, rfl⟩ := List.getLast?_eq_some_iff.mp h
  rw [List.map_append]
  exact atI_last _ _
def spNow : Sp := fun vs H Q _ => ∃ (o l d : Addr) (S : De) (p t : Nat), vs = [.ref o, .int p, .int t] ∧ Here H o l d S ∧ ∀ H' : Hp, Same H H' → Q (oV (S.now p t)) H'
theorem sc_law_now : FnScope ["_law_here", "_law_phrase", "_law_tongue", "_law_some"] ["_law_here", "_law_phrase", "_law_tongue"] (defScope s_law_now) := ⟨rfl, rfl, rfl, by decide +kernel, rfl, by decide +kernel, by decide +kernel⟩
theorem c_law_now {P : Program} {w : World} {K : PySem.W.Frag} {mg : Str → Option Value} {base : Heap} (T : Tx K mg) : C8.Cal P w K mg base 1 "_law_now" (spNow) [] := by
  refine calD T.F_law_now T.g_law_now (fun _ _ _ _ _ _ us hl => match us, hl with | [_, _, _], _ => rfl) sc_law_now (fun vs H Q E h => ?_) (fun cdv A outer s H vs Q E hr h => ?_)
  · obtain ⟨o, l, d, S, p, t, rfl, _⟩ := h
    rfl
  · obtain ⟨o, l, d, S, p, t, rfl, hh, q⟩ := h
    refine ⟨_, (pss_cons (ps_set (i := 3) sc_law_now.nd rfl (Or.inl rfl) (pe_dget2 (hu_of hr) (pe_dget (hu_of hr) (pv 0) pe_str (fun _ _ => rfl)) (pe_tup (pa_cons (pv 1) (pa_cons (pv 2) pa_nil))) (pe_lst pa_nil) ⟨rfl, rfl, rfl, rfl⟩))
    (pss_one (ps_ret (pe_ifExp (pt_cmpR (op_neD hr.units) (pv 3) (pe_lst pa_nil) (nomark _)) (pe_ix ix_list (pv 3) (pe_un un_neg pe_int) (fun _ _ => rfl)) pe_non)))), ?_⟩
    refine ⟨_, rfl, o, _, rfl, DGet.k (k := kL) hh.top, d, rfl, hh.isD, _, rfl, _, rfl, (by show 2 ≤ sizeLine; decide), fun b nb => ⟨Nat.zero_le _, fun e ne => ?_⟩⟩
    have s2 : Same H (upd (upd H b (.tup [V.int (p : Int), V.int (t : Int)])) e (.lst [])) := (same_upd nb).trans (same_upd ne)
    have hb : (upd (upd H b (.tup [V.int (p : Int), V.int (t : Int)])) e (.lst [])) b = some (.tup ((ty p t).map kV)) := same_upd ne _ _ upd_same
    have he : LsAt (upd (upd H b (.tup [V.int (p : Int), V.int (t : Int)])) e (.lst [])) e [] := upd_same
    generalize upd (upd H b (.tup [V.int (p : Int), V.int (t : Int)])) e (.lst []) = H3 at s2 hb he ⊢
    obtain ⟨r, g, lv⟩ := lieOf (hh.same s2) p t hb
    have key : ∃ (a : Addr), r.getD (.ref e) = .ref a ∧ LsAt H3 a (S.lie p t) := by
      cases r with
      | none => exact ⟨e, rfl, by rw [show S.lie p t = [] from lv]; exact he⟩
      | some v =>
        obtain ⟨a, h1, _, h2⟩ := lv
        exact ⟨a, h1, h2⟩
    obtain ⟨a, ea, ha⟩ := key
    refine ⟨r, g, ?_⟩
    rw [ea]
    refine ⟨_, rfl, Nat.zero_le _, fun f nf => ⟨_, _, dp_ints (ha.same (same_upd nf)), dp_ints (ns := []) upd_same, shaped_ints _, shaped_ints _, !decide (S.lie p t = []), by rw [eqv_ints], ?_⟩⟩
    have q' := q _ (s2.trans (same_upd nf (o := .lst [])))
    unfold De.now at q'
    cases el : (S.lie p t).getLast? with
    | none =>
      have e0 : S.lie p t = [] := List.getLast?_eq_none_iff.mp el
      rw [decide_eq_true e0]
      rw [el] at q'
      exact iteF q'
    | some k =>
      have e0 : ¬ S.lie p t = [] := fun z => by
        rw [z] at el
        cases el
      rw [decide_eq_false e0]
      rw [el] at q'
      exact iteT ⟨_, rfl, _, rfl, a, _, _, _, rfl, rfl, SqL.of (ha.same (same_upd nf)), last_at el, q'⟩
--# _law_row
def spRowOf : Sp := fun vs H Q _ => ∃ (o l d : Addr) (S : De) (f : Addr) (fr : List Int) (p : Nat), vs = [.ref o, .ref f, .int p] ∧ Here H o l d S ∧ S.Num ∧ LsAt H f fr ∧ fr.length ≤ 100 ∧
  ∀ (H' : Hp) (a : Addr), Same H H' → H a = none → RowAt H' a (S.row (fr.length + 1) p) → Q (.ref a) H'
theorem sc_law_row : FnScope ["_law_here", "_law_froms_here", "_law_phrase", "_law_found", "_law_tongue", "_law_number_here"] ["_law_here", "_law_froms_here", "_law_phrase"] (defScope s_law_row) := ⟨rfl, rfl, rfl, by decide +kernel, rfl, by decide +kernel, by decide +kernel⟩
theorem c_law_row {P : Program} {w : World} {K : PySem.W.Frag} {mg : Str → Option Value} {base : Heap} (T : Tx K mg) : C8.Cal P w K mg base 2 "_law_row" (spRowOf) [] := by
  refine calD T.F_law_row T.g_law_row (fun _ _ _ _ _ _ us hl => match us, hl with | [_, _, _], _ => rfl) sc_law_row (fun vs H Q E h => ?_) (fun cdv A outer s H vs Q E hr h => ?_)
  · obtain ⟨o, l, d, S, f, fr, p, rfl, _⟩ := h
    rfl
  · obtain ⟨o, l, d, S, f, fr, p, rfl, hh, hN, hf, h100, q⟩ := h
    refine ⟨_, (pss_cons (ps_set (i := 3) sc_law_row.nd rfl (Or.inl rfl) (pe_lst pa_nil))
    (pss_cons (ps_for PassesOwn.never rfl (pi_range1 (by rfl) T.f_range (pa_cons (pe_op op_add (pe_callB call_len_seq (by rfl) T.f_len (by decide +kernel) (pa_cons (pv 1) pa_nil)) pe_int) pa_nil)) (pg_name (i := 4) sc_law_row.nd rfl (Or.inl rfl))
      (pss_cons (ps_set (i := 5) sc_law_row.nd rfl (Or.inl rfl) (C8.pe_c (c_law_now T) hr (by decide) rfl (pa_cons (pv 0) (pa_cons (pv 2) (pa_cons (pv 4) pa_nil)))))
      (pss_one (ps_expr (pe_bm PySem.F.plainAttrs_list PySem.F.slot_list_append PySem.F.type_list_append mt_append (pv 3) (pa_cons (pe_ifExp (pt_cmpR op_isN (pv 5) pe_non (nomark _)) pe_non (pe_tup (pa_cons (pv 5) (pa_cons (pe_ix ix_tup (pe_ix ix_list (pe_dget (hu_of hr) (pv 0) pe_str (fun _ _ => rfl)) (pv 5) (fun _ _ => rfl)) pe_int (fun _ _ => rfl)) pa_nil)))) pa_nil))))))
    (pss_one (ps_ret (pv 3))))), ?_⟩
    refine ⟨Nat.zero_le _, fun D nD => ?_⟩
    refine ⟨_, rfl, f, _, rfl, .inl (SqL.of (hf.same (same_upd nD))), _, _, rfl, rfl, _, rfl, by rw [List.length_map]; omega, by rw [List.length_map]; omega, ?_⟩
    refine for_range (lo := 0) (n := ((fr.map V.int).length + 1 : Int).toNat) (fun i σ H4 => ∃ va vb : Option V, σ = [some (.ref o), some (.ref f), some (.int p), some (.ref D), va, vb] ∧ Same H H4 ∧ RowAt H4 D (S.row i p)) ⟨none, none, rfl, same_upd nD, ⟨[], upd_same, ⟨rfl, fun i c e => by simp [De.row] at e⟩⟩⟩ ?_ ?_
    · rintro i σ H4 hi ⟨va, vb, rfl, s4, hr4⟩
      rw [List.length_map] at hi
      have ei : (0 + (i : Int)) = (i : Int) := Int.zero_add _
      rw [ei]
      refine ⟨_, rfl, _, rfl, _, rfl, o, l, d, S, p, i, rfl, hh.same s4, fun H5 s5 => ?_⟩
      have s45 := s4.trans s5
      obtain ⟨ws, hw, hcs⟩ := hr4.same s5
      have hlen : ws.length < sizeLine := by
        rw [hcs.len]
        unfold De.row
        rw [List.length_map, List.length_range]
        exact small1000 (by omega)
      have step : ∀ (H6 : Hp) (v : V), Same H5 H6 → CellV H6 v (S.cell p i) → Same H (upd H6 D (.lst (ws ++ [v]))) ∧ RowAt (upd H6 D (.lst (ws ++ [v]))) D (S.row (i + 1) p) := by
        intro H6 v s6 hc
        refine ⟨Same.chg (s45.trans s6) nD, ?_⟩
        have z := RowAt.snoc ((hr4.same s5).same s6) (s6 _ _ hw) hc
        unfold De.row at z ⊢
        rw [List.range_succ, List.map_append]
        exact z
      refine ⟨_, rfl, .inl ⟨rfl, _, SqL.of hw⟩, _, rfl, rfl, decide (oV (S.now p i) = .non), rfl, ?_⟩
      cases en : S.now p i with
      | none =>
        rw [show oV (none : Option Int) = .non from rfl, decide_eq_true rfl]
        obtain ⟨g1, g2⟩ := step H5 .non (Same.refl _) (by unfold De.cell; rw [en]; rfl)
        exact iteT ⟨D, _, _, rfl, rfl, hw, hlen, _, _, rfl, g1, g2⟩
      | some k =>
        rw [show oV (some k) = .int k from rfl, decide_eq_false (by intro z; cases z)]
        obtain ⟨k0, u, eu, _, _⟩ := hN.now en
        have hh5 := hh.same s45
        obtain ⟨vs, b, h1, h2, h3⟩ := hh5.put_at k0 eu
        refine iteF ⟨_, rfl, _, rfl, o, _, rfl, DGet.k (k := kU) hh5.top, _, rfl, l, _, _, _, rfl, rfl, SqL.of h1, h2, b, _, _, _, rfl, rfl, SqT.of h3, atI_nat (j := 3) rfl, (by show 2 ≤ sizeLine; decide), fun c nc => ?_⟩
        obtain ⟨g1, g2⟩ := step _ (.ref c) (same_upd nc (o := .tup [.int k, oV u.s])) (by
          unfold De.cell
          rw [en]
          show CellV _ _ (some (k, (S.pt k).s))
          rw [De.pt_at eu]
          exact ⟨c, rfl, upd_same⟩)
        exact ⟨D, _, _, rfl, rfl, same_upd nc _ _ hw, hlen, _, _, rfl, g1, g2⟩
    · rintro σ H4 ⟨va, vb, rfl, s4, hr4⟩
      refine ⟨_, rfl, q H4 D s4 nD ?_⟩
      rw [show ((fr.map V.int).length + 1 : Int).toNat = fr.length + 1 by rw [List.length_map]; omega] at hr4
      exact hr4
--# _law_ever
def spEver : Sp := fun vs H Q _ => ∃ (o l d : Addr) (S : De) (p t : Nat), vs = [.ref o, .int p, .int t] ∧ Here H o l d S ∧ ∀ (H' : Hp) (a : Addr), Same H H' → H a = none → EvAt H' a (S.ever p t) → Q (.ref a) H'
theorem dec_nat {x y : Nat} : decide (V.int (x : Int) = V.int (y : Int)) = decide (x = y) := by
  by_cases z : x = y
  · subst z
    simp
  · have z1 : ¬ V.int (x : Int) = V.int (y : Int) := fun e => z (by have := V.int.inj e; omega)
    rw [decide_eq_false z1, decide_eq_false z]
theorem sc_law_ever : FnScope ["_law_here", "_law_phrase", "_law_tongue", "_law_found", "_law_number_here", "_law_one"] ["_law_here", "_law_phrase", "_law_tongue"] (defScope s_law_ever) := ⟨rfl, rfl, rfl, by decide +kernel, rfl, by decide +kernel, by decide +kernel⟩
theorem c_law_ever {P : Program} {w : World} {K : PySem.W.Frag} {mg : Str → Option Value} {base : Heap} (T : Tx K mg) : C8.Cal P w K mg base 1 "_law_ever" (spEver) [] := by
  refine calD T.F_law_ever T.g_law_ever (fun _ _ _ _ _ _ us hl => match us, hl with | [_, _, _], _ => rfl) sc_law_ever (fun vs H Q E h => ?_) (fun cdv A outer s H vs Q E hr h => ?_)
  · obtain ⟨o, l, d, S, p, t, rfl, _⟩ := h
    rfl
  · obtain ⟨o, l, d, S, p, t, rfl, hh, q⟩ := h
    refine ⟨_, (pss_cons (ps_set (i := 3) sc_law_ever.nd rfl (Or.inl rfl) (pe_lst pa_nil))
    (pss_cons (ps_for PassesOwn.never rfl (pi_enum (by rfl) T.f_enumerate (pa_cons (pe_dget (hu_of hr) (pv 0) pe_str (fun _ _ => rfl)) pa_nil)) (pg_tup rfl (pgs_cons (pg_name (i := 4) sc_law_ever.nd rfl (Or.inl rfl)) (pgs_cons (pg_name (i := 5) sc_law_ever.nd rfl (Or.inl rfl)) pgs_nil)))
      (pss_one (ps_if (PW.pt (pw_and (pt_cmpR op_eq (pe_ix ix_tup (pv 5) pe_int (fun _ _ => rfl)) (pv 1) (nomark _)) (pw_and1 (pt_cmpR op_eq (pe_ix ix_tup (pv 5) pe_int (fun _ _ => rfl)) (pv 2) (nomark _)))))
        (pss_one (ps_expr (pe_bm PySem.F.plainAttrs_list PySem.F.slot_list_append PySem.F.type_list_append mt_append (pv 3) (pa_cons (pe_tup (pa_cons (pv 4) (pa_cons (pe_ix ix_tup (pv 5) pe_int (fun _ _ => rfl)) pa_nil))) pa_nil))))
        pss_nil)))
    (pss_one (ps_ret (pv 3))))), ?_⟩
    refine ⟨Nat.zero_le _, fun D nD => ?_⟩
    have s0 : Same H (upd H D (.lst [])) := same_upd nD
    obtain ⟨vs, hv, ha⟩ := hh.puts
    have few := hh.few
    refine ⟨_, rfl, o, _, rfl, DGet.k (k := kU) (hh.same s0).top, l, _, rfl, SqL.of (s0 _ _ hv), ?_⟩
    refine for_it (walk_enum (K := K) (a := l) (xs := vs)) (fun i σ H4 => ∃ va vb : Option V, σ = [some (.ref o), some (.int p), some (.int t), some (.ref D), va, vb] ∧ Same H H4 ∧ EvAt H4 D (evG p t 0 (S.puts.take i))) ⟨none, none, rfl, s0, ⟨[], upd_same, All2.nil⟩⟩ (fun i σ H4 _ ⟨_, _, _, s4, _⟩ => SqL.of (s4 _ _ hv)) ?_ ?_
    · rintro i v σ H4 H5 hi ⟨va, vb, rfl, s4, hE⟩ ⟨U, x, y, rfl, nU, rfl, e1, e2⟩
      cases (Option.some.inj e1)
      obtain ⟨u, eu, b, rfl, hb⟩ := ha.at e2
      have sU : Same H4 (upd H4 U (.tup [V.int (i : Nat), V.ref b])) := same_upd nU
      have hb5 := s4.trans sU _ _ hb
      have hE5 := hE.same sU
      have s5 := s4.trans sU
      have e6 : S.puts.take (i + 1) = S.puts.take i ++ [u] := by rw [List.take_add_one, eu]; rfl
      have li : (S.puts.take i).length = i := by
        rw [List.length_take]
        have := (List.getElem?_eq_some_iff.mp eu).1
        omega
      refine ⟨U, _, rfl, .inl (.inl upd_same), rfl, _, _, rfl, _, _, rfl, rfl, ?_⟩
      generalize upd H4 U (.tup [V.int (i : Nat), V.ref b]) = H5 at hb5 hE5 s5 ⊢
      refine ⟨_, rfl, b, _, _, _, rfl, rfl, SqT.of hb5, atI_nat (j := 0) rfl, _, rfl, rfl, decide (u.p = p), congrArg V.bl dec_nat, ?_⟩
      have no : ¬ (u.p = p ∧ u.t = t) → EvAt H5 D (evG p t 0 (S.puts.take (i + 1))) := by
        intro c
        rw [e6, evG_snoc, if_neg c, List.append_nil]
        exact hE5
      by_cases c1 : u.p = p
      · rw [decide_eq_true c1]
        refine iteT ⟨_, rfl, b, _, _, _, rfl, rfl, SqT.of hb5, atI_nat (j := 1) rfl, _, rfl, rfl, decide (u.t = t), congrArg V.bl dec_nat, ?_⟩
        by_cases c2 : u.t = t
        · rw [decide_eq_true c2]
          obtain ⟨ws, hw, hws⟩ := id hE5
          have hlen : ws.length < sizeLine := by
            rw [hws.len]
            have := evG_len (p := p) (t := t) (l := S.puts.take i) (k := 0)
            rw [li] at this
            have := (List.getElem?_eq_some_iff.mp eu).1
            exact small5000 (by omega)
          refine iteT ⟨_, rfl, .inl ⟨rfl, _, SqL.of hw⟩, _, rfl, _, rfl, b, _, _, _, rfl, rfl, SqT.of hb5, atI_nat (j := 2) rfl, (by show 2 ≤ sizeLine; decide), fun c nc => ?_⟩
          refine ⟨D, _, _, rfl, rfl, same_upd nc _ _ hw, hlen, _, _, rfl, Same.chg (s5.trans (same_upd nc)) nD, ?_⟩
          have z := EvAt.snoc (hE5.same (same_upd nc (o := .tup [V.int (i : Nat), V.str u.x]))) (same_upd nc _ _ hw) (v := .ref c) (e := ((i : Int), u.x)) ⟨c, rfl, upd_same⟩
          rw [e6, evG_snoc, if_pos ⟨c1, c2⟩, li, Nat.zero_add]
          exact z
        · rw [decide_eq_false c2]
          exact iteF ⟨_, _, rfl, s5, no (fun z => c2 z.2)⟩
      · rw [decide_eq_false c1]
        exact iteF (iteF ⟨_, _, rfl, s5, no (fun z => c1 z.1)⟩)
    · rintro σ H4 ⟨va, vb, rfl, s4, hE⟩
      rw [ha.len, List.take_length] at hE
      exact ⟨_, rfl, q H4 D s4 nD hE⟩
--# _law_put
def spPutL : Sp := fun vs H Q _ => ∃ (o l d : Addr) (S : De) (p t : Nat) (x : Str) (s : Option Int), vs = [.ref o, .int p, .int t, .str x, oV s] ∧ Here H o l d S ∧ S.puts.length < 5000 ∧
  ∀ H' : Hp, Off o l d H H' → Still H H' d → Here H' o l d (S.lay p t x s) → Q (.int (S.puts.length : Int)) H'
theorem sc_law_put : FnScope ["_law_here", "_law_phrase", "_law_tongue", "_law_text_here", "_law_seen"] ["_law_here", "_law_phrase", "_law_tongue", "_law_text_here", "_law_seen"] (defScope s_law_put) := ⟨rfl, rfl, rfl, by decide +kernel, rfl, by decide +kernel, by decide +kernel⟩
theorem c_law_put {P : Program} {w : World} {K : PySem.W.Frag} {mg : Str → Option Value} {base : Heap} (T : Tx K mg) : C8.Cal P w K mg base 1 "_law_put" (spPutL) [] := by
  refine calD T.F_law_put T.g_law_put (fun _ _ _ _ _ _ us hl => match us, hl with | [_, _, _, _, _], _ => rfl) sc_law_put (fun vs H Q E h => ?_) (fun cdv A outer s H vs Q E hr h => ?_)
  · obtain ⟨o, l, d, S, p, t, x, s, rfl, _⟩ := h
    rfl
  · obtain ⟨o, l, d, S, p, t, x, s, rfl, hh, fw, q⟩ := h
    refine ⟨_, (pss_cons (ps_expr (pe_bm PySem.F.plainAttrs_list PySem.F.slot_list_append PySem.F.type_list_append mt_append (pe_dget (hu_of hr) (pv 0) pe_str (fun _ _ => rfl)) (pa_cons (pe_tup (pa_cons (pv 1) (pa_cons (pv 2) (pa_cons (pv 3) (pa_cons (pv 4) pa_nil))))) pa_nil)))
    (pss_cons (ps_dput (hu_of hr) (pe_dget (hu_of hr) (pv 0) pe_str (fun _ _ => rfl)) (pe_tup (pa_cons (pv 1) (pa_cons (pv 2) pa_nil))) (pe_op op_cat (pe_dget2 (hu_of hr) (pe_dget (hu_of hr) (pv 0) pe_str (fun _ _ => rfl)) (pe_tup (pa_cons (pv 1) (pa_cons (pv 2) pa_nil))) (pe_lst pa_nil) ⟨rfl, rfl, rfl, rfl⟩) (pe_lst (pa_cons (pe_op op_sub (pe_callB call_len_seq (by rfl) T.f_len (by decide +kernel) (pa_cons (pe_dget (hu_of hr) (pv 0) pe_str (fun _ _ => rfl)) pa_nil)) pe_int) pa_nil))) rfl)
    (pss_one (ps_ret (pe_op op_sub (pe_callB call_len_seq (by rfl) T.f_len (by decide +kernel) (pa_cons (pe_dget (hu_of hr) (pv 0) pe_str (fun _ _ => rfl)) pa_nil)) pe_int))))), ?_⟩
    obtain ⟨vs, hv, ha⟩ := hh.puts
    have hlen : vs.length < sizeLine := by
      rw [ha.len]
      exact small5000 (by omega)
    refine ⟨_, rfl, o, _, rfl, DGet.k (k := kU) hh.top, .inl ⟨rfl, _, SqL.of hv⟩, _, rfl, _, rfl, _, rfl, _, rfl, (by show 4 ≤ sizeLine; decide), fun b nb => ?_⟩
    have s1 : Same H (upd H b (.tup [V.int (p : Int), V.int (t : Int), V.str x, oV s])) := same_upd nb
    have hb1 : (upd H b (.tup [V.int (p : Int), V.int (t : Int), V.str x, oV s])) b = some (.tup [V.int (p : Int), V.int (t : Int), V.str x, oV s]) := upd_same
    generalize upd H b (.tup [V.int (p : Int), V.int (t : Int), V.str x, oV s]) = H1 at s1 hb1 ⊢
    have hv1 := s1 _ _ hv
    have hh1 := hh.same s1
    obtain ⟨n1, n2, n3⟩ := hh.ne
    refine ⟨l, _, _, rfl, rfl, hv1, hlen, ?_⟩
    obtain ⟨kvs, hd0, hk, hL0⟩ := hh.lie
    have hd := s1 _ _ hd0
    have hL := fun p t => (hL0 p t).same s1
    have al2 : ∀ c x, H c = some x → ∃ y, (upd H1 l (.lst (vs ++ [.ref b]))) c = some y := by
      intro c x ec
      by_cases cl : c = l
      · rw [cl]
        exact ⟨_, upd_same⟩
      · rw [upd_ne cl]
        exact ⟨x, s1 _ _ ec⟩
    have top2 : (upd H1 l (.lst (vs ++ [.ref b]))) o = some (.dK (topK S.n l d)) := by
      rw [upd_ne n1]
      exact hh1.top
    have hd2 : (upd H1 l (.lst (vs ++ [.ref b]))) d = some (.dT kvs) := by
      rw [upd_ne (Ne.symm n3)]
      exact hd
    have hl2 : (upd H1 l (.lst (vs ++ [.ref b]))) l = some (.lst (vs ++ [.ref b])) := upd_same
    have hL2 : LieV (upd H1 l (.lst (vs ++ [.ref b]))) l (valV kvs (ty p t)) (S.lie p t) := by
      have z := hL p t
      cases ev : valV kvs (ty p t) with
      | none =>
        rw [ev] at z
        exact z
      | some v =>
        rw [ev] at z
        obtain ⟨a, e1, e2, e3⟩ := z
        refine ⟨a, e1, e2, ?_⟩
        unfold LsAt
        rw [upd_ne e2]
        exact e3
    have lay := fun H3 s3 a kvs => @Here.lay H H1 H3 o l d b a S vs kvs p t x s hh fw s1 hb1 hv1 s3
    generalize upd H1 l (.lst (vs ++ [.ref b])) = H2 at top2 hd2 hl2 hL2 lay al2 ⊢
    refine ⟨_, rfl, o, _, rfl, DGet.k (k := kL) top2, d, rfl, .inr ⟨_, .inl hd2⟩, _, rfl, _, rfl, (by show 2 ≤ sizeLine; decide), fun c nc => ⟨Nat.zero_le _, fun e ne => ?_⟩⟩
    have s3 : Same H2 (upd (upd H2 c (.tup [V.int (p : Int), V.int (t : Int)])) e (.lst [])) := (same_upd nc).trans (same_upd ne)
    have hc3 : (upd (upd H2 c (.tup [V.int (p : Int), V.int (t : Int)])) e (.lst [])) c = some (.tup ((ty p t).map kV)) := same_upd ne _ _ upd_same
    have he3 : LsAt (upd (upd H2 c (.tup [V.int (p : Int), V.int (t : Int)])) e (.lst [])) e [] := upd_same
    generalize upd (upd H2 c (.tup [V.int (p : Int), V.int (t : Int)])) e (.lst []) = H3 at s3 hc3 he3 ⊢
    have key : ∃ (a : Addr), (valV kvs (ty p t)).getD (.ref e) = .ref a ∧ LsAt H3 a (S.lie p t) := by
      cases er : valV kvs (ty p t) with
      | none =>
        rw [er] at hL2
        exact ⟨e, rfl, by rw [show S.lie p t = [] from hL2]; exact he3⟩
      | some v =>
        rw [er] at hL2
        obtain ⟨a, h1, _, h2⟩ := hL2
        exact ⟨a, h1, h2.same s3⟩
    obtain ⟨a, ea, ha3⟩ := key
    refine ⟨_, DGet.t (s3 _ _ hd2) hc3, ?_⟩
    rw [ea]
    have ev : (((vs ++ [V.ref b]).length : Nat) : Int) - 1 = (S.puts.length : Int) := by
      rw [List.length_append, List.length_singleton, ha.len]
      omega
    refine ⟨_, rfl, o, _, rfl, DGet.k (k := kU) (s3 _ _ top2), l, _, rfl, .inl (SqL.of (s3 _ _ hl2)), _, _, rfl, rfl, (by show 1 ≤ sizeLine; decide), fun g ng => ?_⟩
    have s4 := s3.trans (same_upd ng (o := .lst [V.int (((vs ++ [V.ref b]).length : Nat) - 1)]))
    have hg4 : (upd H3 g (.lst [V.int (((vs ++ [V.ref b]).length : Nat) - 1)])) g = some (.lst [V.int (((vs ++ [V.ref b]).length : Nat) - 1)]) := upd_same
    have ha4 : LsAt (upd H3 g (.lst [V.int (((vs ++ [V.ref b]).length : Nat) - 1)])) a (S.lie p t) := ha3.same (same_upd ng)
    refine ⟨a, g, _, _, rfl, rfl, ha4, hg4, ?_, fun r nr => ?_⟩
    · have := hh.lens p t
      rw [List.length_map]
      exact Nat.le_of_lt (small5000 (show (S.lie p t).length + 1 ≤ 5000 by omega))
    have s5 := s4.trans (same_upd nr (o := .lst ((S.lie p t).map V.int ++ [V.int (((vs ++ [V.ref b]).length : Nat) - 1)])))
    have hr5 : LsAt (upd (upd H3 g (.lst [V.int (((vs ++ [V.ref b]).length : Nat) - 1)])) r (.lst ((S.lie p t).map V.int ++ [V.int (((vs ++ [V.ref b]).length : Nat) - 1)]))) r (S.lie p t ++ [(S.puts.length : Int)]) := by
      unfold LsAt
      rw [upd_same, List.map_append, ev]
      rfl
    have news : ∀ c x, H c = some x → c ≠ r := by
      rintro c x ec rfl
      obtain ⟨y, ey⟩ := al2 c x ec
      rw [s4 _ _ ey] at nr
      cases nr
    have nrl : r ≠ l := Ne.symm (ne_of_none (s4 _ _ hl2) nr)
    generalize upd (upd H3 g (.lst [V.int (((vs ++ [V.ref b]).length : Nat) - 1)])) r (.lst ((S.lie p t).map V.int ++ [V.int (((vs ++ [V.ref b]).length : Nat) - 1)])) = H5 at s5 hr5 ⊢
    refine ⟨_, rfl, o, _, rfl, DGet.k (k := kL) (s5 _ _ top2), _, rfl, _, rfl, (by show 2 ≤ sizeLine; decide), fun c2 nc2 => ?_⟩
    have s6 := s5.trans (same_upd nc2 (o := .tup [V.int (p : Int), V.int (t : Int)]))
    have hc6 : (upd H5 c2 (.tup [V.int (p : Int), V.int (t : Int)])) c2 = some (.tup ((ty p t).map kV)) := upd_same
    have hr6 := hr5.same (same_upd nc2 (o := .tup [V.int (p : Int), V.int (t : Int)]))
    generalize upd H5 c2 (.tup [V.int (p : Int), V.int (t : Int)]) = H6 at s6 hc6 hr6 ⊢
    obtain ⟨f1, f2⟩ := lay H6 s6 r kvs (s6 _ _ hd2) nrl hr6
    refine ⟨d, _, rfl, DPut.t (s6 _ _ hd2) hc6 (small5000 (by omega)), ?_⟩
    have hl7 : (upd H6 d (.dT (putK kvs (ty p t) (.ref r)))) l = some (.lst (vs ++ [.ref b])) := by
      rw [upd_ne n3]
      exact s6 _ _ hl2
    refine ⟨_, rfl, o, _, rfl, DGet.k (k := kU) f1.top, l, _, rfl, .inl (SqL.of hl7), _, _, rfl, rfl, ?_⟩
    have z := q _ f2 (still_put hh hd0 news) f1
    rw [← ev] at z
    exact z

end PD

namespace PD
open PySem PySem.Spec PyProof.Rows L2

/-! Phrasedesk, the desk of the law's own: like texts -/
--# _law_likes
def spLikes : Sp := fun vs H Q _ => ∃ (o l d : Addr) (S : De) (f : Addr) (fr : List Int) (p t : Nat), vs = [.ref o, .ref f, .int p, .int t] ∧ Here H o l d S ∧ S.Ok fr ∧ LsAt H f fr ∧ FrOk fr ∧ 0 < t ∧ t ≤ fr.length ∧
  ∀ (H' : Hp) (a : Addr) (ts : List Str), Same H H' → H a = none → H' a = some (.lst (ts.map V.str)) → sortedS ts = true → ts.Nodup → (∀ y, y ∈ ts ↔ y ∈ S.found fr p t S.n) → Q (.ref a) H'
theorem sc_law_likes : FnScope ["_law_here", "_law_froms_here", "_law_phrase", "_law_tongue", "_law_above", "_law_found", "_law_mine", "_law_other", "_law_theirs", "_law_row_here", "_law_puts"] ["_law_here", "_law_froms_here", "_law_phrase", "_law_tongue"] (defScope s_law_likes) := ⟨rfl, rfl, rfl, by decide +kernel, rfl, by decide +kernel, by decide +kernel⟩
theorem c_law_likes {P : Program} {w : World} {K : PySem.W.Frag} {mg : Str → Option Value} {base : Heap} (T : Tx K mg) : C8.Cal P w K mg base 3 "_law_likes" (spLikes) [] := by
  refine calD T.F_law_likes T.g_law_likes (fun _ _ _ _ _ _ us hl => match us, hl with | [_, _, _, _], _ => rfl) sc_law_likes (fun vs H Q E h => ?_) (fun cdv A outer s H vs Q E hr h => ?_)
  · obtain ⟨o, l, d, S, f, fr, p, t, rfl, _⟩ := h
    rfl
  · obtain ⟨o, l, d, S, f, fr, p, t, rfl, hh, ok, hf, fo, t0, t1, q⟩ := h
    refine ⟨_, (pss_cons (ps_par (i := 4) (j := 5) (by rfl) sc_law_likes.nd rfl rfl (by decide) rfl rfl (pa_cons (pe_ix ix_list (pv 1) (pe_op op_sub (pv 3) pe_int) (fun _ _ => rfl)) (pa_cons (pe_lst pa_nil) pa_nil)) (by rfl))
    (pss_cons (ps_set (i := 6) sc_law_likes.nd rfl (Or.inl rfl) (C8.pe_c (c_law_now T) hr (by decide) rfl (pa_cons (pv 0) (pa_cons (pv 2) (pa_cons (pv 4) pa_nil)))))
    (pss_cons (ps_for PassesOwn.never rfl (pi_range1 (by rfl) T.f_range (pa_cons (pe_dget (hu_of hr) (pv 0) pe_str (fun _ _ => rfl)) pa_nil)) (pg_name (i := 7) sc_law_likes.nd rfl (Or.inl rfl))
      (pss_cons (ps_set (i := 8) sc_law_likes.nd rfl (Or.inl rfl) (C8.pe_c (c_law_now T) hr (by decide) rfl (pa_cons (pv 0) (pa_cons (pv 7) (pa_cons (pv 4) pa_nil)))))
      (pss_one (ps_if (PW.pt (pw_and (pt_cmpR op_ne (pv 7) (pv 2) (nomark _)) (pw_and (pt_cmpR op_notN (pv 6) pe_non (nomark _)) (pw_and1 (pt_cmpR op_notN (pv 8) pe_non (nomark _))))))
        (pss_cons (ps_par (i := 9) (j := 10) (by rfl) sc_law_likes.nd rfl rfl (by decide) rfl rfl (pa_cons (C8.pe_c (c_law_row T) hr (by decide) rfl (pa_cons (pv 0) (pa_cons (pv 1) (pa_cons (pv 7) pa_nil)))) (pa_cons (pe_dget (hu_of hr) (pv 0) pe_str (fun _ _ => rfl)) pa_nil)) (by rfl))
        (pss_one (ps_if (PW.pt (pw_and (pt_cmpR op_eq (pe_ix ix_tup (pe_ix ix_list (pv 10) (pv 6) (fun _ _ => rfl)) pe_int (fun _ _ => rfl)) (pe_ix ix_tup (pe_ix ix_list (pv 10) (pv 8) (fun _ _ => rfl)) pe_int (fun _ _ => rfl)) (nomark _)) (pw_and1 (pt_cmpR (op_eqD hr.units) (C8.pe_c (c_law_chain T) hr (by decide) rfl (pa_cons (pv 1) (pa_cons (pv 9) (pa_cons (pv 3) pa_nil)))) (pe_lst pa_nil) (nomark _)))))
          (pss_one (ps_expr (pe_bm PySem.F.plainAttrs_list PySem.F.slot_list_append PySem.F.type_list_append mt_append (pv 5) (pa_cons (pe_ix ix_tup (pe_ix ix_list (pe_dget (hu_of hr) (pv 0) pe_str (fun _ _ => rfl)) (C8.pe_c (c_law_now T) hr (by decide) rfl (pa_cons (pv 0) (pa_cons (pv 7) (pa_cons (pv 3) pa_nil)))) (fun _ _ => rfl)) pe_int (fun _ _ => rfl)) pa_nil))))
          pss_nil)))
        pss_nil))))
    (pss_one (ps_ret (pe_srt rfl (by rfl) T.f_sorted (by rfl) T.f_set (pv 5))))))), ?_⟩
    obtain ⟨x, ex, x0, xl, xu⟩ := fo.at t0 t1
    have hi7 := fo.hi
    have n6 := ok.six
    refine ⟨_, rfl, _, rfl, _, _, rfl, rfl, f, _, _, V.int x, rfl, rfl, SqL.of hf, at_of (j := t - 1) (by omega) (ivs ex), Nat.zero_le _, fun D nD => ⟨_, _, rfl, ?_⟩⟩
    subst xu
    have s0 : Same H (upd H D (.lst [])) := same_upd nD
    have hD0 : (upd H D (.lst [])) D = some (.lst (([] : List Str).map V.str)) := upd_same
    generalize upd H D (.lst []) = H0 at s0 hD0 ⊢
    refine ⟨_, rfl, _, rfl, _, rfl, o, l, d, S, p, up fr t, rfl, hh.same s0, fun H1 s1 => ?_⟩
    have s01 := s0.trans s1
    refine ⟨_, rfl, o, _, rfl, DGet.k (k := kP) (hh.same s01).top, _, rfl, by omega, by omega, ?_⟩
    refine for_range (lo := 0) (n := (S.n : Int).toNat) (fun i σ H4 => ∃ va vb vc vd : Option V, σ = [some (.ref o), some (.ref f), some (.int p), some (.int t), some (.int (up fr t)), some (.ref D), some (oV (S.now p (up fr t))), va, vb, vc, vd] ∧ Same H H4 ∧ H4 D = some (.lst ((S.found fr p t i).map V.str))) ⟨none, none, none, none, rfl, s01, s1 _ _ hD0⟩ ?_ ?_
    · rintro i σ H4 hi ⟨va, vb, vc, vd, rfl, s4, hD4⟩
      have hin : i < S.n := by omega
      rw [show (0 + (i : Int)) = (i : Int) from Int.zero_add _]
      refine ⟨_, rfl, _, rfl, _, rfl, o, l, d, S, i, up fr t, rfl, hh.same s4, fun H5 s5 => ?_⟩
      have s45 := s4.trans s5
      have hD5 := s5 _ _ hD4
      have no : ∀ (H6 : Hp) (vc vd : Option V), Same H5 H6 → S.like fr p t i = false → ∃ va vb vc' vd' : Option V, [some (V.ref o), some (V.ref f), some (V.int p), some (V.int t), some (V.int (up fr t)), some (V.ref D), some (oV (S.now p (up fr t))), some (V.int i), some (oV (S.now i (up fr t))), vc, vd] = [some (.ref o), some (.ref f), some (.int p), some (.int t), some (.int (up fr t)), some (.ref D), some (oV (S.now p (up fr t))), va, vb, vc', vd'] ∧ Same H H6 ∧ H6 D = some (.lst ((S.found fr p t (i + 1)).map V.str)) := by
        intro H6 vc vd s6 e
        refine ⟨_, _, _, _, rfl, s45.trans s6, ?_⟩
        rw [De.found_no e]
        exact s6 _ _ hD5
      refine ⟨_, rfl, _, rfl, rfl, !decide (i = p), ?_, ?_⟩
      · exact congrArg (fun b => V.bl (!b)) dec_nat
      by_cases c1 : i = p
      · rw [decide_eq_true c1]
        refine iteF (iteF (no H5 _ _ (Same.refl _) ?_))
        unfold De.like
        rw [decide_eq_false (fun z => z c1), Bool.false_and]
      rw [decide_eq_false c1]
      refine iteT ⟨_, rfl, rfl, !decide (oV (S.now p (up fr t)) = .non), rfl, ?_⟩
      cases em : S.now p (up fr t) with
      | none =>
        rw [em] at no
        refine iteF (iteF (no H5 _ _ (Same.refl _) ?_))
        unfold De.like
        rw [em, Option.isSome_none, Bool.false_and, Bool.and_false]
      | some m =>
      rw [em] at no
      refine iteT ⟨_, rfl, rfl, !decide (oV (S.now i (up fr t)) = .non), rfl, ?_⟩
      cases eh : S.now i (up fr t) with
      | none =>
        rw [eh] at no
        refine iteF (no H5 _ _ (Same.refl _) ?_)
        unfold De.like
        rw [eh, Option.isSome_none, Bool.false_and, Bool.and_false, Bool.and_false]
      | some h =>
      rw [eh] at no
      obtain ⟨m0, um, eum, _, _⟩ := ok.num.now em
      obtain ⟨h0, uh, euh, _, _⟩ := ok.num.now eh
      have lk : S.like fr p t i = (decide (um.x = uh.x) && (chain fr (S.row (fr.length + 1) i) t).isNone) := by
        unfold De.like De.tx
        rw [em, eh, decide_eq_true c1, Option.isSome_some, Option.isSome_some, Bool.true_and, Bool.true_and, Bool.true_and]
        show (decide ((S.pt m).x = (S.pt h).x) && _) = _
        rw [De.pt_at eum, De.pt_at euh]
      refine iteT ⟨_, rfl, _, rfl, _, rfl, o, l, d, S, f, fr, i, rfl, hh.same s45, ok.num, hf.same s45, by omega, fun H6 r s6 nr hr6 => ?_⟩
      have s06 := s45.trans s6
      have hh6 := hh.same s06
      obtain ⟨vs, bm, hl6, am, hm⟩ := hh6.put_at m0 eum
      obtain ⟨vs', bh, hl6', ah, hhh⟩ := hh6.put_at h0 euh
      rw [hl6] at hl6'
      cases (HO.lst.inj (Option.some.inj hl6'))
      refine ⟨_, rfl, o, _, rfl, DGet.k (k := kU) hh6.top, _, _, rfl, ?_⟩
      refine ⟨_, rfl, _, rfl, l, _, _, _, rfl, rfl, SqL.of hl6, am, bm, _, _, _, rfl, rfl, SqT.of hm, atI_nat (j := 2) rfl, _, rfl, _, rfl, l, _, _, _, rfl, rfl, SqL.of hl6, ah, bh, _, _, _, rfl, rfl, SqT.of hhh, atI_nat (j := 2) rfl, rfl, decide (um.x = uh.x), ?_, ?_⟩
      · refine congrArg V.bl ?_
        by_cases z : um.x = uh.x
        · rw [decide_eq_true z, decide_eq_true (congrArg V.str z)]
        · rw [decide_eq_false z, decide_eq_false (fun y => z (V.str.inj y))]
      by_cases c2 : um.x = uh.x
      · rw [decide_eq_true c2]
        rw [decide_eq_true c2, Bool.true_and] at lk
        refine iteT ⟨_, rfl, _, rfl, _, rfl, f, fr, r, _, t, rfl, ⟨hf.same s06, fo, hr6, ok.row hin, t1⟩, fun H7 ch s7 nch hch => ⟨Nat.zero_le _, fun g ng => ⟨_, _, dp_ints (hch.same (same_upd ng)), dp_ints (ns := []) upd_same, shaped_ints _, shaped_ints _, (chain fr (S.row (fr.length + 1) i) t).isNone, ?_, ?_⟩⟩⟩
        · rw [eqv_ints]
          refine congrArg V.bl ?_
          cases ec : chain fr (S.row (fr.length + 1) i) t with
          | none => rfl
          | some c =>
            have := (chain_mem fo t c t1 ec).1
            exact decide_eq_false this
        have s68 : Same H6 (upd H7 g (.lst [])) := s7.trans (same_upd ng)
        cases ec : chain fr (S.row (fr.length + 1) i) t with
        | some c =>
          rw [ec] at lk
          exact iteF (no _ _ _ (s6.trans s68) lk)
        | none =>
          rw [ec] at lk
          obtain ⟨k, ek⟩ := De.fresh_now fo t0 t1 ec
          obtain ⟨k0, uk, euk, _, _⟩ := ok.num.now ek
          have s08 := s06.trans s68
          have hD8 := s68 _ _ (s6 _ _ hD5)
          generalize upd H7 g (.lst []) = H8 at s68 s08 hD8 ⊢
          refine iteT ⟨_, rfl, .inl ⟨rfl, _, SqL.of hD8⟩, _, rfl, o, _, rfl, DGet.k (k := kU) (hh.same s08).top, _, rfl, _, rfl, _, rfl, o, l, d, S, i, t, rfl, hh.same s08, fun H9 s9 => ?_⟩
          have s09 := s08.trans s9
          obtain ⟨ws, bk, hl9, ak, hk⟩ := (hh.same s09).put_at k0 euk
          rw [ek]
          have fl := De.found_len (fr := fr) (S := S) (p := p) (t := t) (i := i)
          refine ⟨l, _, _, _, rfl, rfl, SqL.of hl9, ak, bk, _, _, _, rfl, rfl, SqT.of hk, atI_nat (j := 2) rfl, D, _, _, rfl, rfl, s9 _ _ hD8, ?_, _, _, _, _, rfl, Same.chg s09 nD, ?_⟩
          · rw [List.length_map]
            exact small1000 (by omega)
          · rw [upd_same, De.found_yes lk, List.map_append]
            unfold De.tx
            rw [ek]
            show _ = some (HO.lst (_ ++ [V.str (S.pt k).x]))
            rw [De.pt_at euk]
      · rw [decide_eq_false c2]
        rw [decide_eq_false c2, Bool.false_and] at lk
        exact iteF (iteF (no H6 _ _ s6 lk))
    · rintro σ H4 ⟨va, vb, vc, vd, rfl, s4, hD4⟩
      rw [show (S.n : Int).toNat = S.n by omega] at hD4
      have fl := De.found_len (fr := fr) (S := S) (p := p) (t := t) (i := S.n)
      refine ⟨_, rfl, D, _, rfl, SqL.of hD4, by omega, fun ts a srt nd mem na => ?_⟩
      exact q _ a ts (s4.trans (same_upd na)) (s4.free na) upd_same srt nd mem

end PD

namespace PD
open PySem PySem.Spec PyProof.Rows L2

/-! Phrasedesk, the desk of the law's own: deeds by the cells -/
--# _law_deed
def spDeed (K : PySem.W.Frag) : Sp := fun vs H Q _ => ∃ (a : Addr) (ns : List Int) (b at_ : Int) (o l d : Addr) (S : De) (f : Addr) (fr : List Int), vs = [.ref a, .int b, .int at_, .ref o, .ref f] ∧ SqL K H a (ns.map V.int) ∧ 0 ≤ b ∧ b ≤ 100 ∧ 0 ≤ at_ ∧ at_ ≤ 100 ∧ Here H o l d S ∧ S.Ok fr ∧ LsAt H f fr ∧ FrOk fr ∧
  ∀ (H' : Hp) (q : Addr) (dd : Deed), Same H H' → H q = none → H' q = some (.tup dd.vals) → S.May fr dd → (S.n = 0 → ∃ x, dd = .phrase x) → Q (.ref q) H'
theorem sc_law_deed : FnScope ["_law_script", "_law_by", "_law_at", "_law_here", "_law_froms_here", "_law_cell", "_law_kind", "_law_count", "_law_text_here", "_law_phrase", "_law_tongue", "_law_lying", "_law_seen", "_law_some", "_law_number_here", "_law_one"] ["_law_script", "_law_by", "_law_at", "_law_here", "_law_froms_here"] (defScope s_law_deed) := ⟨rfl, rfl, rfl, by decide +kernel, rfl, by decide +kernel, by decide +kernel⟩
theorem c_law_deed {P : Program} {w : World} {K : PySem.W.Frag} {mg : Str → Option Value} {base : Heap} (T : Tx K mg) : C8.Cal P w K mg base 3 "_law_deed" (spDeed K) [] := by
  refine calD T.F_law_deed T.g_law_deed (fun _ _ _ _ _ _ us hl => match us, hl with | [_, _, _, _, _], _ => rfl) sc_law_deed (fun vs H Q E h => ?_) (fun cdv A outer s H vs Q E hr h => ?_)
  · obtain ⟨a, ns, b, at_, o, l, d, S, f, fr, rfl, _⟩ := h
    rfl
  · obtain ⟨a, ns, b, at_, o, l, d, S, f, fr, rfl, hS, b0, b1, a0, a1, hh, ok, hf, fo, q⟩ := h
    refine ⟨_, (pss_cons (ps_set (i := 5) sc_law_deed.nd rfl (Or.inl rfl) (pe_op op_add (C8.pe_c (c_law_cell_at T) hr (by decide) rfl (pa_cons (pv 0) (pa_cons (pe_op op_add (pv 1) (pe_op op_modN (pv 2) pe_int)) pa_nil))) (pe_op op_mul pe_int (pv 2))))
    (pss_cons (ps_par (i := 6) (j := 7) (by rfl) sc_law_deed.nd rfl rfl (by decide) rfl rfl (pa_cons (C8.pe_c (c_law_number T) hr (by decide) rfl (pa_cons (pv 5) (pa_cons (pv 2) (pa_cons pe_int pa_nil)))) (pa_cons (pe_dget (hu_of hr) (pv 3) pe_str (fun _ _ => rfl)) pa_nil)) (by rfl))
    (pss_cons (ps_set (i := 8) sc_law_deed.nd rfl (Or.inl rfl) (C8.pe_c (c_law_text T) hr (by decide) rfl (pa_cons (C8.pe_c (c_law_number T) hr (by decide) rfl (pa_cons (pv 5) (pa_cons (pe_op op_add (pv 2) pe_int) (pa_cons (pe_ix ix_tup (pe_tup (pa_cons pe_int (pa_cons pe_int pa_nil))) (C8.pe_c (c_law_number T) hr (by decide) rfl (pa_cons (pe_op op_add (pv 5) pe_int) (pa_cons (pe_op op_add (pv 2) pe_int) (pa_cons pe_int pa_nil)))) (fun _ _ => rfl)) pa_nil)))) pa_nil)))
    (C8.pss_cut (ps_if (PW.pt (pw_or (pt_cmpR op_eq (pv 7) pe_int (nomark _)) (pw_or1 (PW.pt (pw_and (pt_cmpR op_lt (pv 6) pe_int (nomark _)) (pw_and1 (pt_cmpR op_lt (pv 7) pe_int (nomark _))))))))
      (pss_one (ps_ret (pe_tup (pa_cons pe_str (pa_cons (pv 8) pa_nil)))))
      pss_nil)
    (pss_cons (ps_par (i := 9) (j := 10) (by rfl) sc_law_deed.nd rfl rfl (by decide) rfl rfl (pa_cons (C8.pe_c (c_law_number T) hr (by decide) rfl (pa_cons (pv 5) (pa_cons (pe_op op_add (pv 2) pe_int) (pa_cons (pv 7) pa_nil)))) (pa_cons (C8.pe_c (c_law_number T) hr (by decide) rfl (pa_cons (pv 5) (pa_cons (pe_op op_add (pv 2) pe_int) (pa_cons (pe_op op_add (pe_callB call_len_seq (by rfl) T.f_len (by decide +kernel) (pa_cons (pv 4) pa_nil)) pe_int) pa_nil)))) pa_nil)) (by rfl))
    (C8.pss_cut (ps_if (PW.pt (pw_and (pt_cmpR op_eq (pv 6) pe_int (nomark _)) (pw_and1 (pt_cmpR op_gt (pv 10) pe_int (nomark _)))))
      (pss_one (ps_ret (pe_tup (pa_cons pe_str (pa_cons (pv 10) pa_nil)))))
      pss_nil)
    (pss_cons (ps_set (i := 11) sc_law_deed.nd rfl (Or.inl rfl) (pe_dget2 (hu_of hr) (pe_dget (hu_of hr) (pv 3) pe_str (fun _ _ => rfl)) (pe_tup (pa_cons (pv 9) (pa_cons (pv 10) pa_nil))) (pe_lst pa_nil) ⟨rfl, rfl, rfl, rfl⟩))
    (C8.pss_cut (ps_if (PW.pt (pw_and (pt_cmpR op_lt (pv 6) pe_int (nomark _)) (pw_and1 (pt_cmpR op_gt (pe_callB call_len_seq (by rfl) T.f_len (by decide +kernel) (pa_cons (pv 11) pa_nil)) (pe_callTy call_int1 (by rfl) T.f_int (by decide +kernel) (pa_cons (pe_cmpR op_eq (pv 10) pe_int (nomark _)) pa_nil)) (nomark _)))))
      (pss_one (ps_ret (pe_tup (pa_cons pe_str (pa_cons (pv 9) (pa_cons (pv 10) pa_nil))))))
      pss_nil)
    (pss_cons (ps_set (i := 12) sc_law_deed.nd rfl (Or.inl rfl) pe_non)
    (C8.pss_cut (ps_if (pt_cmpR op_gt (pv 10) pe_int (nomark _))
      (pss_cons (ps_setLc (i := 13) (own := [("_law_number_here", 14), ("_law_one", 15)]) (g := gTup K 2 (gCons (gName 14) (gCons (gName 15) (gNil)))) (tt := tYes) (by rfl) sc_law_deed.nd rfl rfl (sw_true rfl rfl rfl (by decide +kernel)) (pi_list (C8.pe_c (c_law_ever T) hr (by decide) rfl (pa_cons (pv 3) (pa_cons (pv 9) (pa_cons (pe_ix ix_list (pv 4) (pe_op op_sub (pv 10) pe_int) (fun _ _ => rfl)) pa_nil))))) (blkOk_by (own := [("_law_number_here", 14), ("_law_one", 15)]) (N := ["_law_script", "_law_by", "_law_at", "_law_here", "_law_froms_here", "_law_cell", "_law_kind", "_law_count", "_law_text_here", "_law_phrase", "_law_tongue", "_law_lying", "_law_seen", "_law_some", "_law_number_here", "_law_one"]) (sc := defScope s_law_deed) (by decide +kernel)) (fun _ _ _ _ _ => (pg_tup rfl (pgs_cons (pg_name (i := 14) sc_law_deed.nd rfl (Or.inl rfl) (Or.inr rfl)) (pgs_cons (pg_name (i := 15) sc_law_deed.nd rfl (Or.inl rfl) (Or.inr rfl)) pgs_nil)))) (fun _ _ _ _ _ => pts_nil) (fun _ _ _ _ _ => (pv 14)))
      (pss_cons (ps_set (i := 12) sc_law_deed.nd rfl (Or.inl rfl) (C8.pe_c (c_law_now T) hr (by decide) rfl (pa_cons (pv 3) (pa_cons (pv 9) (pa_cons (pe_ix ix_list (pv 4) (pe_op op_sub (pv 10) pe_int) (fun _ _ => rfl)) pa_nil)))))
      (pss_cons (ps_if (pt_cmpR (op_eqD hr.units) (pv 13) (pe_lst pa_nil) (nomark _))
        (pss_one (ps_ret (pe_tup (pa_cons pe_str (pa_cons (pv 9) (pa_cons pe_int (pa_cons (pv 8) (pa_cons pe_non (pa_cons (C8.pe_c (c_law_now T) hr (by decide) rfl (pa_cons (pv 3) (pa_cons (pv 9) (pa_cons pe_int pa_nil)))) pa_nil)))))))))
        pss_nil)
      (pss_one (ps_set (i := 12) sc_law_deed.nd rfl (Or.inl rfl) (pe_ifExp (PW.pt (pw_or (pt_cmpR op_gt (pv 6) pe_int (nomark _)) (pw_or1 (pt_cmpR op_isN (pv 12) pe_non (nomark _))))) (pe_ix ix_list (pv 13) (C8.pe_c (c_law_number T) hr (by decide) rfl (pa_cons (pv 5) (pa_cons (pe_op op_add (pv 2) pe_int) (pa_cons (pe_callB call_len_seq (by rfl) T.f_len (by decide +kernel) (pa_cons (pv 13) pa_nil)) pa_nil)))) (fun _ _ => rfl)) (pv 12)))))))
      pss_nil)
    (pss_one (ps_ret (pe_tup (pa_cons pe_str (pa_cons (pv 9) (pa_cons (pv 10) (pa_cons (pv 8) (pa_cons (pv 12) (pa_cons (C8.pe_c (c_law_now T) hr (by decide) rfl (pa_cons (pv 3) (pa_cons (pv 9) (pa_cons (pv 10) pa_nil)))) pa_nil))))))))))))))))))), ?_⟩
    have hi7 := fo.hi
    have n6 := ok.six
    have m0 : 0 ≤ Int.fmod at_ 9 := fmod_lo (by decide)
    refine ⟨_, rfl, _, rfl, _, rfl, _, _, rfl, rfl, (show (9 : Int) ≠ 0 by decide), _, _, rfl, rfl, a, ns, _, rfl, hS, by omega, fun cy => ⟨_, rfl, _, _, rfl, rfl, .inl ⟨by decide, by decide⟩, _, _, rfl, rfl, ?_⟩⟩
    refine ⟨_, rfl, _, rfl, _, _, _, rfl, by omega, by omega, by decide, by decide, fun H1 kd s1 k0 k1 => ⟨_, rfl, o, _, rfl, DGet.k (k := kP) (hh.same s1).top, _, _, rfl, ?_⟩⟩
    refine ⟨_, rfl, _, rfl, _, _, rfl, rfl, (by show 2 ≤ sizeLine; decide), fun t2 nt2 => ?_⟩
    have s2 := s1.trans (same_upd nt2 (o := .tup [V.int 3, V.int 936]))
    have ht2 : (upd H1 t2 (.tup [V.int 3, V.int 936])) t2 = some (.tup [V.int 3, V.int 936]) := upd_same
    generalize upd H1 t2 (.tup [V.int 3, V.int 936]) = H2 at s2 ht2 ⊢
    refine ⟨_, rfl, _, _, rfl, rfl, _, rfl, _, _, rfl, rfl, _, _, _, rfl, by omega, by omega, by decide, by decide, fun H3 z s3 z0 z1 => ?_⟩
    obtain ⟨lm, elm, lm0, lm1⟩ : ∃ y : Int, [V.int 3, V.int 936][z.toNat]? = some (V.int y) ∧ 0 < y ∧ y ≤ 100000000000000000000 := by
      have hk : z = 0 ∨ z = 1 := by omega
      rcases hk with rfl | rfl
      · exact ⟨_, rfl, by decide, by decide⟩
      · exact ⟨_, rfl, by decide, by decide⟩
    refine ⟨t2, _, _, V.int lm, rfl, rfl, SqT.of (s3 _ _ ht2), at_of (j := z.toNat) (by omega) elm, _, _, _, rfl, by omega, by omega, lm0, lm1, fun H4 y s4 y0 y1 => ⟨_, rfl, y0, fun x tx => ?_⟩⟩
    have s04 := (s2.trans s3).trans s4
    have hh4 := hh.same s04
    -- a phrase
    have ph : S.n < 6 → ∀ (t3 : Addr), H4 t3 = none → Q (.ref t3) (upd H4 t3 (.tup [V.str "phrase", V.str x])) := fun n6 t3 n3 => q _ t3 (.phrase x) (s04.trans (same_upd n3)) (s04.free n3) upd_same ⟨n6, tx⟩ fun _ => ⟨x, rfl⟩
    refine ⟨fun σ' H' => 0 < S.n ∧ H' = H4 ∧ σ' = [some (.ref a), some (.int b), some (.int at_), some (.ref o), some (.ref f), some (.int (cy + 31 * at_)), some (.int kd), some (.int S.n), some (.str x), none, none, none, none, none, none, none], ?_, ?_⟩
    · refine ⟨_, rfl, rfl, decide (S.n = 0), congrArg V.bl (dec_nat (y := 0)), ?_⟩
      by_cases c0 : S.n = 0
      · rw [decide_eq_true c0]
        exact iteT ⟨_, rfl, (by show 2 ≤ sizeLine; decide), fun t3 n3 => ph (by omega) t3 n3⟩
      rw [decide_eq_false c0]
      refine iteF ⟨_, rfl, _, _, rfl, rfl, decide (kd < 2), rfl, ?_⟩
      by_cases c1 : kd < 2
      · rw [decide_eq_true c1]
        refine iteT ⟨_, rfl, _, _, rfl, rfl, decide ((S.n : Int) < 6), rfl, ?_⟩
        by_cases c2 : (S.n : Int) < 6
        · rw [decide_eq_true c2]
          exact iteT ⟨_, rfl, (by show 2 ≤ sizeLine; decide), fun t3 n3 => ph (by omega) t3 n3⟩
        · rw [decide_eq_false c2]
          exact iteF ⟨by omega, rfl, rfl⟩
      · rw [decide_eq_false c1]
        exact iteF (iteF ⟨by omega, rfl, rfl⟩)
    rintro σ' H' ⟨c0, rfl, rfl⟩
    refine ⟨_, rfl, _, rfl, _, _, rfl, rfl, _, rfl, _, _, _, rfl, by omega, by omega, by omega, by omega, fun H5 pi s5 p0 p1 => ?_⟩
    refine ⟨_, rfl, _, rfl, _, _, rfl, rfl, _, rfl, f, _, rfl, .inl (SqL.of ((hf.same s04).same s5)), _, _, rfl, rfl, _, _, _, rfl, by omega, by omega, by rw [List.length_map]; omega, by rw [List.length_map]; omega, fun H6 ti s6 t0 t1 => ⟨_, _, rfl, ?_⟩⟩
    rw [List.length_map] at t1
    obtain ⟨p, rfl⟩ : ∃ p : Nat, pi = (p : Int) := ⟨pi.toNat, by omega⟩
    obtain ⟨t, rfl⟩ : ∃ t : Nat, ti = (t : Int) := ⟨ti.toNat, by omega⟩
    have hp : p < S.n := by omega
    have ht : t ≤ fr.length := by omega
    have s06 := (s04.trans s5).trans s6
    clear s5 s6
    -- a filling
    refine ⟨fun σ' H' => H' = H6 ∧ σ' = [some (.ref a), some (.int b), some (.int at_), some (.ref o), some (.ref f), some (.int (cy + 31 * at_)), some (.int kd), some (.int S.n), some (.str x), some (.int p), some (.int t), none, none, none, none, none], ?_, ?_⟩
    · refine ⟨_, rfl, rfl, decide (V.int kd = V.int 2), rfl, ?_⟩
      by_cases c1 : V.int kd = V.int 2
      · rw [decide_eq_true c1]
        refine iteT ⟨_, rfl, _, _, rfl, rfl, decide ((0 : Int) < (t : Int)), rfl, ?_⟩
        by_cases c2 : (0 : Int) < (t : Int)
        · rw [decide_eq_true c2]
          exact iteT ⟨_, rfl, (by show 2 ≤ sizeLine; decide), fun t3 n3 => q _ t3 (.fill t) (s06.trans (same_upd n3)) (s06.free n3) upd_same ⟨by omega, ht⟩ fun z => by omega⟩
        · rw [decide_eq_false c2]
          exact iteF ⟨rfl, rfl⟩
      · rw [decide_eq_false c1]
        exact iteF (iteF ⟨rfl, rfl⟩)
    rintro σ' H' ⟨rfl, rfl⟩
    have hh6 := hh.same s06
    refine ⟨_, rfl, o, _, rfl, DGet.k (k := kL) hh6.top, d, rfl, hh6.isD, _, rfl, _, rfl, (by show 2 ≤ sizeLine; decide), fun c nc => ⟨Nat.zero_le _, fun e ne => ?_⟩⟩
    have s7 := s06.trans ((same_upd nc (o := .tup [V.int (p : Int), V.int (t : Int)])).trans (same_upd ne (o := .lst [])))
    have hb7 : (upd (upd H' c (.tup [V.int (p : Int), V.int (t : Int)])) e (.lst [])) c = some (.tup ((ty p t).map kV)) := same_upd ne _ _ upd_same
    have he7 : LsAt (upd (upd H' c (.tup [V.int (p : Int), V.int (t : Int)])) e (.lst [])) e [] := upd_same
    generalize upd (upd H' c (.tup [V.int (p : Int), V.int (t : Int)])) e (.lst []) = H7 at s7 hb7 he7 ⊢
    obtain ⟨r, g, lv⟩ := lieOf (hh.same s7) p t hb7
    have key : ∃ (a : Addr), r.getD (.ref e) = .ref a ∧ LsAt H7 a (S.lie p t) := by
      cases r with
      | none => exact ⟨e, rfl, by rw [show S.lie p t = [] from lv]; exact he7⟩
      | some v =>
        obtain ⟨a, h1, _, h2⟩ := lv
        exact ⟨a, h1, h2⟩
    obtain ⟨ly, ea, hly⟩ := key
    refine ⟨r, g, ?_⟩
    rw [ea]
    -- taken back
    refine ⟨fun σ' H' => H' = H7 ∧ σ' = [some (.ref a), some (.int b), some (.int at_), some (.ref o), some (.ref f), some (.int (cy + 31 * at_)), some (.int kd), some (.int S.n), some (.str x), some (.int p), some (.int t), some (.ref ly), none, none, none, none], ?_, ?_⟩
    · refine ⟨_, rfl, _, _, rfl, rfl, decide (kd < 4), rfl, ?_⟩
      by_cases c1 : kd < 4
      · rw [decide_eq_true c1]
        refine iteT ⟨_, rfl, ly, _, rfl, .inl (SqL.of hly), _, rfl, rfl, .inr ⟨decide (t = 0), by rw [show decide (V.int (t : Int) = V.int 0) = decide (t = 0) from dec_nat (y := 0)], ?_⟩⟩
        refine ⟨_, _, rfl, rfl, decide ((if t = 0 then 1 else 0) < (S.lie p t).length), ?_, ?_⟩
        · refine congrArg V.bl ?_
          rw [List.length_map]
          by_cases c2 : t = 0
          · rw [decide_eq_true c2, if_pos c2]
            exact decide_eq_decide.mpr (by rw [if_pos rfl]; omega)
          · rw [decide_eq_false c2, if_neg c2]
            exact decide_eq_decide.mpr (by rw [if_neg (by decide)]; omega)
        by_cases c3 : (if t = 0 then 1 else 0) < (S.lie p t).length
        · rw [decide_eq_true c3]
          exact iteT ⟨_, rfl, _, rfl, (by show 3 ≤ sizeLine; decide), fun t3 n3 => q _ t3 (.back p t) (s7.trans (same_upd n3)) (s7.free n3) upd_same ⟨hp, ht, c3⟩ fun z => by omega⟩
        · rw [decide_eq_false c3]
          exact iteF ⟨rfl, rfl⟩
      · rw [decide_eq_false c1]
        exact iteF (iteF ⟨rfl, rfl⟩)
    rintro σ' H' ⟨rfl, rfl⟩
    -- what it is put from
    refine ⟨fun σ' H8 => ∃ (se : Option Int) (v13 v14 v15 : Option V), Same H' H8 ∧ S.Seen fr p t se ∧ σ' = [some (.ref a), some (.int b), some (.int at_), some (.ref o), some (.ref f), some (.int (cy + 31 * at_)), some (.int kd), some (.int S.n), some (.str x), some (.int p), some (.int t), some (.ref ly), some (oV se), v13, v14, v15], ?_, ?_⟩
    · refine ⟨_, rfl, _, _, rfl, rfl, decide ((0 : Int) < (t : Int)), rfl, ?_⟩
      by_cases c1 : (0 : Int) < (t : Int)
      · rw [decide_eq_true c1]
        obtain ⟨xx, ex, x0, xl, xu⟩ := fo.at (t := t) (by omega) ht
        subst xu
        refine iteT ⟨_, rfl, _, rfl, _, rfl, _, rfl, _, _, rfl, rfl, f, _, _, _, rfl, rfl, SqL.of (hf.same s7), at_of (j := t - 1) (by omega) (ivs ex), o, l, d, S, p, up fr t, rfl, hh.same s7, fun H8 ev s8 nev hev => ?_⟩
        obtain ⟨ws, hws, hal⟩ := hev
        have elen : (S.ever p (up fr t)).length ≤ 5000 := by
          have h1 := evG_len (p := p) (t := up fr t) (l := S.puts) (k := 0)
          have h2 := hh.few
          unfold De.ever
          omega
        refine ⟨ev, rfl, ⟨_, SqL.of hws⟩, fun D nD => ?_⟩
        refine lc_list (K := K) (a := ev) (xs := ws) (fun i H1 => Same H8 H1 ∧ LsAt H1 D (((S.ever p (up fr t)).take i).map (·.1))) ⟨same_upd nD, upd_same⟩ (fun i H1 _ z => SqL.of (z.1 _ _ hws)) ?_ ?_
        · rintro i v H1 hv ⟨s9, hD⟩
          obtain ⟨e, ee, u, rfl, hu⟩ := hal.at hv
          refine ⟨u, _, rfl, .inl (.inl (s9 _ _ hu)), rfl, _, _, rfl, _, _, rfl, rfl, rfl, _, rfl, _, hD, ?_, Same.chg s9 nD, ?_⟩
          · rw [List.length_map, List.length_map, List.length_take]
            exact small5000 (by omega)
          · unfold LsAt
            rw [upd_same, List.take_add_one, ee, Option.toList_some, List.map_append, List.map_append]
            rfl
        rintro H9 ⟨s9, hD⟩
        rw [hal.len, List.take_length] at hD
        have s79 := s8.trans s9
        have s09 := s7.trans s79
        refine ⟨_, rfl, _, rfl, _, rfl, _, rfl, _, _, rfl, rfl, f, _, _, _, rfl, rfl, SqL.of (hf.same s09), at_of (j := t - 1) (by omega) (ivs ex), o, l, d, S, p, up fr t, rfl, hh.same s09, fun H10 s10 => ?_⟩
        refine ⟨_, rfl, Nat.zero_le _, fun g' ng => ⟨_, _, dp_ints ((hD.same s10).same (same_upd ng)), dp_ints (ns := []) upd_same, shaped_ints _, shaped_ints _, decide ((S.ever p (up fr t)).map (·.1) = []), by rw [eqv_ints], ?_⟩⟩
        have s11 := (s79.trans s10).trans (same_upd ng (o := .lst []))
        have hD11 := (hD.same s10).same (same_upd ng (o := .lst []))
        generalize upd H10 g' (.lst []) = H11 at s11 hD11 ⊢
        have s011 := s7.trans s11
        by_cases c2 : (S.ever p (up fr t)).map (·.1) = []
        · rw [decide_eq_true c2]
          refine iteT ⟨_, rfl, _, rfl, _, rfl, _, rfl, o, l, d, S, p, 0, rfl, hh.same s011, fun H12 s12 => ⟨(by show 6 ≤ sizeLine; decide), fun t3 n3 => ?_⟩⟩
          exact q _ t3 (.put p 0 x none (S.now p 0)) ((s011.trans s12).trans (same_upd n3)) ((s011.trans s12).free n3) upd_same ⟨hp, by omega, tx, rfl, fun _ => rfl, fun z => by omega⟩ fun z => by omega
        rw [decide_eq_false c2]
        have l0 : 0 < ((S.ever p (up fr t)).map (·.1)).length := List.length_pos_iff.mpr c2
        have l1 : ((S.ever p (up fr t)).map (·.1)).length ≤ 5000 := by rw [List.length_map]; exact elen
        -- one of all that was ever put
        have ofEver : ∀ z : Int, 0 ≤ z → z < (((S.ever p (up fr t)).map (·.1)).length : Int) → ∃ k : Int, ((S.ever p (up fr t)).map (·.1))[z.toNat]? = some k ∧ S.Seen fr p t (some k) := by
          intro z z0 z1
          have zl : z.toNat < ((S.ever p (up fr t)).map (·.1)).length := by omega
          have zl' : z.toNat < (S.ever p (up fr t)).length := by
            rw [List.length_map] at zl
            exact zl
          refine ⟨((S.ever p (up fr t))[z.toNat]).1, ?_, fun y => by omega, fun _ => ?_⟩
          · rw [List.getElem?_map, List.getElem?_eq_getElem zl']
            rfl
          · obtain ⟨j, ej, v, h1, h2, h3⟩ := De.seen_ever (List.getElem_mem zl')
            exact ⟨j, congrArg some ej, v, h1, h2, h3⟩
        refine iteF ⟨_, rfl, _, _, rfl, rfl, decide (8 < kd), rfl, ?_⟩
        by_cases c3 : 8 < kd
        · rw [decide_eq_true c3]
          refine iteT ⟨_, rfl, _, rfl, _, rfl, _, _, rfl, rfl, _, rfl, D, _, rfl, .inl (SqL.of hD11), _, _, _, rfl, by omega, by omega, by rw [List.length_map]; omega, by rw [List.length_map]; omega, fun H12 z s12 z0 z1 => ?_⟩
          rw [List.length_map] at z1
          obtain ⟨k, ek, sk⟩ := ofEver z z0 z1
          exact ⟨D, _, _, V.int k, rfl, rfl, SqL.of (hD11.same s12), at_of (j := z.toNat) (by omega) (ivs ek), some k, _, _, _, s11.trans s12, sk, rfl⟩
        rw [decide_eq_false c3]
        refine iteF ⟨_, rfl, rfl, decide (oV (S.now p (up fr t)) = .non), rfl, ?_⟩
        cases en : S.now p (up fr t) with
        | none =>
          refine iteT ⟨_, rfl, _, rfl, _, rfl, _, _, rfl, rfl, _, rfl, D, _, rfl, .inl (SqL.of hD11), _, _, _, rfl, by omega, by omega, by rw [List.length_map]; omega, by rw [List.length_map]; omega, fun H12 z s12 z0 z1 => ?_⟩
          rw [List.length_map] at z1
          obtain ⟨k, ek, sk⟩ := ofEver z z0 z1
          exact ⟨D, _, _, V.int k, rfl, rfl, SqL.of (hD11.same s12), at_of (j := z.toNat) (by omega) (ivs ek), some k, _, _, _, s11.trans s12, sk, rfl⟩
        | some k =>
          refine iteF ⟨_, rfl, some k, _, _, _, s11, ⟨fun y => by omega, fun _ => ?_⟩, rfl⟩
          obtain ⟨j, ej, v, h1, h2, h3⟩ := ok.seen_now en
          exact ⟨j, congrArg some ej, v, h1, h2, h3⟩
      · rw [decide_eq_false c1]
        exact iteF ⟨none, none, none, none, Same.refl _, ⟨fun _ => rfl, fun z => by omega⟩, rfl⟩
    rintro σ' H8 ⟨se, v13, v14, v15, s8, sn, rfl⟩
    refine ⟨_, rfl, _, rfl, _, rfl, _, rfl, _, rfl, _, rfl, _, rfl, o, l, d, S, p, t, rfl, (hh.same s7).same s8, fun H9 s9 => ⟨(by show 6 ≤ sizeLine; decide), fun t3 n3 => ?_⟩⟩
    exact q _ t3 (.put p t x se (S.now p t)) (((s7.trans s8).trans s9).trans (same_upd n3)) (((s7.trans s8).trans s9).free n3) upd_same ⟨hp, ht, tx, rfl, sn⟩ fun z => by omega

end PD

namespace PD
open PySem PySem.Spec PyProof.Rows L2

/-! Phrasedesk, the desk of the law's own: what comes -/
--# _law_come
def ResV (H : Hp) (v : V) : Res → Prop
  | .num k => v = .int k
  | .many l => ∃ a, v = .ref a ∧ LsAt H a l
def spCome : Sp := fun vs H Q _ => ∃ (o l d : Addr) (S : De) (f : Addr) (fr : List Int) (q : Addr) (dd : Deed), vs = [.ref o, .ref f, .ref q] ∧ Here H o l d S ∧ S.Ok fr ∧ S.puts.length ≤ 4000 ∧ LsAt H f fr ∧ f ≠ l ∧ FrOk fr ∧ H q = some (.tup dd.vals) ∧ S.May fr dd ∧
  ∀ (H' : Hp) (r : Addr) (v : V) (ll : Addr), Off o l d H H' → Still H H' d → Here H' o l d (S.come fr dd).1 → H r = none → H' r = some (.tup [v, .ref ll]) → ResV H' v (S.come fr dd).2.1 → H ll = none → LnAt H' ll (S.come fr dd).2.2 → Q (.ref r) H'
theorem cutLast (ns : List Int) : cutV (ns.map V.int) none (some (-1)) = ns.dropLast.map V.int := by
  unfold cutV
  rw [HT.sIx_none, List.drop_zero, Nat.sub_zero, List.map_dropLast, List.dropLast_eq_take]
  congr 1
  show (if (-1 : Int) < 0 then ((-1 : Int) + ((ns.map V.int).length : Int)).toNat else min (-1 : Int).toNat (ns.map V.int).length) = _
  rw [if_pos (by decide)]
  omega
theorem ln_one {H : Hp} {a b : Addr} {n : Line} (hb : H b = some (.tup n.vals)) (na : H a = none) : LnAt (upd H a (.lst [.ref b])) a [n] := ⟨_, upd_same, All2.cons ⟨b, rfl, same_upd na _ _ hb⟩ All2.nil⟩
theorem sc_law_come : FnScope ["_law_here", "_law_froms_here", "_law_deed_here", "_law_found", "_law_lines", "_law_tongue", "_law_phrase", "_law_number_here", "_law_lying", "_law_row_here", "_law_some", "_law_above", "_law_line"] ["_law_here", "_law_froms_here", "_law_deed_here"] (defScope s_law_come) := ⟨rfl, rfl, rfl, by decide +kernel, rfl, by decide +kernel, by decide +kernel⟩
theorem c_law_come {P : Program} {w : World} {K : PySem.W.Frag} {mg : Str → Option Value} {base : Heap} (T : Tx K mg) : C8.Cal P w K mg base 4 "_law_come" (spCome) [] := by
  refine calD T.F_law_come T.g_law_come (fun _ _ _ _ _ _ us hl => match us, hl with | [_, _, _], _ => rfl) sc_law_come (fun vs H Q E h => ?_) (fun cdv A outer s H vs Q E hr h => ?_)
  · obtain ⟨o, l, d, S, f, fr, q, dd, rfl, _⟩ := h
    rfl
  · obtain ⟨o, l, d, S, f, fr, q, dd, rfl, hh, ok, few, hf, nfl, fo, hq, may, k⟩ := h
    cases dd with
    | phrase x =>
      refine ⟨_, (pss_cons (ps_if (pt_cmpR op_eq (pe_ix ix_tup (pv 2) pe_int (fun _ _ => rfl)) pe_str (nomark _))
      (pss_cons (ps_dput (hu_of hr) (pv 0) pe_str (pe_op op_add (pe_dget (hu_of hr) (pv 0) pe_str (fun _ _ => rfl)) pe_int) rfl)
      (pss_cons (ps_set (i := 7) sc_law_come.nd rfl (Or.inl rfl) (C8.pe_c (c_law_put T) hr (by decide) rfl (pa_cons (pv 0) (pa_cons (pe_op op_sub (pe_dget (hu_of hr) (pv 0) pe_str (fun _ _ => rfl)) pe_int) (pa_cons pe_int (pa_cons (pe_ix ix_tup (pv 2) pe_int (fun _ _ => rfl)) (pa_cons pe_non pa_nil)))))))
      (pss_one (ps_ret (pe_tup (pa_cons (pe_op op_sub (pe_dget (hu_of hr) (pv 0) pe_str (fun _ _ => rfl)) pe_int) (pa_cons (pe_lst (pa_cons (pe_tup (pa_cons pe_str (pa_cons (pe_op op_sub (pe_dget (hu_of hr) (pv 0) pe_str (fun _ _ => rfl)) pe_int) (pa_cons (pe_ix ix_tup (pv 2) pe_int (fun _ _ => rfl)) (pa_cons (pv 7) pa_nil))))) pa_nil)) pa_nil)))))))
      pss_nil)
    (pss_cons (ps_if (pt_cmpR op_eq (pe_ix ix_tup (pv 2) pe_int (fun _ _ => rfl)) pe_str (nomark _))
      (pss_cons (ps_set (i := 7) sc_law_come.nd rfl (Or.inl rfl) (C8.pe_c (c_law_put T) hr (by decide) rfl (pa_cons (pv 0) (pa_cons (pe_ix ix_tup (pv 2) pe_int (fun _ _ => rfl)) (pa_cons (pe_ix ix_tup (pv 2) pe_int (fun _ _ => rfl)) (pa_cons (pe_ix ix_tup (pv 2) pe_int (fun _ _ => rfl)) (pa_cons (pe_ix ix_tup (pv 2) pe_int (fun _ _ => rfl)) pa_nil)))))))
      (pss_one (ps_ret (pe_tup (pa_cons (pv 7) (pa_cons (pe_lst (pa_cons (pe_op op_catT (pv 2) (pe_tup (pa_cons (pv 7) pa_nil))) pa_nil)) pa_nil))))))
      pss_nil)
    (pss_cons (ps_if (pt_cmpR op_eq (pe_ix ix_tup (pv 2) pe_int (fun _ _ => rfl)) pe_str (nomark _))
      (pss_cons (ps_set (i := 8) sc_law_come.nd rfl (Or.inl rfl) (pe_dget (hu_of hr) (pe_dget (hu_of hr) (pv 0) pe_str (fun _ _ => rfl)) (pe_tup (pa_cons (pe_ix ix_tup (pv 2) pe_int (fun _ _ => rfl)) (pa_cons (pe_ix ix_tup (pv 2) pe_int (fun _ _ => rfl)) pa_nil))) (fun _ _ => rfl)))
      (pss_cons (ps_dput (hu_of hr) (pe_dget (hu_of hr) (pv 0) pe_str (fun _ _ => rfl)) (pe_tup (pa_cons (pe_ix ix_tup (pv 2) pe_int (fun _ _ => rfl)) (pa_cons (pe_ix ix_tup (pv 2) pe_int (fun _ _ => rfl)) pa_nil))) (pe_slice sl_list (pv 8) po_none (po_some (pe_un un_neg pe_int))) rfl)
      (pss_one (ps_ret (pe_tup (pa_cons (pe_ix ix_list (pv 8) (pe_un un_neg pe_int) (fun _ _ => rfl)) (pa_cons (pe_lst (pa_cons (pe_op op_catT (pv 2) (pe_tup (pa_cons (pe_ix ix_list (pv 8) (pe_un un_neg pe_int) (fun _ _ => rfl)) pa_nil))) pa_nil)) pa_nil)))))))
      pss_nil)
    (pss_cons (ps_par3 (i := 3) (j := 4) (l := 5) (by rfl) sc_law_come.nd rfl rfl rfl (by decide) (by decide) (by decide) rfl rfl rfl (pa_cons (pe_lst pa_nil) (pa_cons (pe_lst pa_nil) (pa_cons (pe_ix ix_tup (pv 2) pe_int (fun _ _ => rfl)) pa_nil))) (by rfl))
    (pss_cons (ps_for PassesOwn.never rfl (pi_range1 (by rfl) T.f_range (pa_cons (pe_dget (hu_of hr) (pv 0) pe_str (fun _ _ => rfl)) pa_nil)) (pg_name (i := 6) sc_law_come.nd rfl (Or.inl rfl))
      (pss_cons (ps_par (i := 9) (j := 10) (by rfl) sc_law_come.nd rfl rfl (by decide) rfl rfl (pa_cons (C8.pe_c (c_law_row T) hr (by decide) rfl (pa_cons (pv 0) (pa_cons (pv 1) (pa_cons (pv 6) pa_nil)))) (pa_cons (C8.pe_c (c_law_likes T) hr (by decide) rfl (pa_cons (pv 0) (pa_cons (pv 1) (pa_cons (pv 6) (pa_cons (pv 5) pa_nil))))) pa_nil)) (by rfl))
      (pss_cons (ps_set (i := 11) sc_law_come.nd rfl (Or.inl rfl) (pe_ix ix_list (pv 1) (pe_op op_sub (pv 5) pe_int) (fun _ _ => rfl)))
      (pss_one (ps_if (PW.pt (pw_and (pt_cmpR (op_eqD hr.units) (C8.pe_c (c_law_chain T) hr (by decide) rfl (pa_cons (pv 1) (pa_cons (pv 9) (pa_cons (pv 11) pa_nil)))) (pe_lst pa_nil) (nomark _)) (pw_and (pt_cmpR (op_neD hr.units) (C8.pe_c (c_law_chain T) hr (by decide) rfl (pa_cons (pv 1) (pa_cons (pv 9) (pa_cons (pv 5) pa_nil)))) (pe_lst pa_nil) (nomark _)) (pw_and1 (pt_cmpR op_eq (pe_callB call_len_seq (by rfl) T.f_len (by decide +kernel) (pa_cons (pv 10) pa_nil)) pe_int (nomark _))))))
        (pss_cons (ps_set (i := 12) sc_law_come.nd rfl (Or.inl rfl) (pe_tup (pa_cons pe_str (pa_cons (pv 6) (pa_cons (pv 5) (pa_cons (pe_ix ix_list (pv 10) pe_int (fun _ _ => rfl)) (pa_cons (pe_ix ix_tup (pe_ix ix_list (pv 9) (pv 11) (fun _ _ => rfl)) pe_int (fun _ _ => rfl)) (pa_cons (C8.pe_c (c_law_now T) hr (by decide) rfl (pa_cons (pv 0) (pa_cons (pv 6) (pa_cons (pv 5) pa_nil)))) pa_nil))))))))
        (pss_cons (ps_expr (pe_bm PySem.F.plainAttrs_list PySem.F.slot_list_append PySem.F.type_list_append mt_append (pv 4) (pa_cons (pe_op op_catT (pv 12) (pe_tup (pa_cons (C8.pe_c (c_law_put T) hr (by decide) rfl (pa_cons (pv 0) (pa_cons (pv 6) (pa_cons (pv 5) (pa_cons (pe_ix ix_list (pv 10) pe_int (fun _ _ => rfl)) (pa_cons (pe_ix ix_tup (pe_ix ix_list (pv 9) (pv 11) (fun _ _ => rfl)) pe_int (fun _ _ => rfl)) pa_nil)))))) pa_nil))) pa_nil)))
        (pss_one (ps_expr (pe_bm PySem.F.plainAttrs_list PySem.F.slot_list_append PySem.F.type_list_append mt_append (pv 3) (pa_cons (pv 6) pa_nil))))))
        pss_nil)))))
    (pss_one (ps_ret (pe_tup (pa_cons (pv 3) (pa_cons (pv 4) pa_nil)))))))))), ?_⟩
      obtain ⟨n6, tx⟩ := may
      refine ⟨_, rfl, q, _, _, _, rfl, rfl, SqT.of hq, atI_nat (j := 0) rfl, rfl, true, rfl, iteT ⟨_, rfl, o, _, rfl, DGet.k (k := kP) hh.top, _, _, rfl, rfl, _, rfl, o, _, rfl, DPut.k (k := kP) hh.top (show 3 < sizeLine by decide), ?_⟩⟩
      have h1 := hh.one
      have o1 : Off o l d H (upd H o (.dK (topK (S.n + 1) l d))) := off_o
      have st1 : Still H (upd H o (.dK (topK (S.n + 1) l d))) d := fun R _ z => z.eq (upd_ne (Ne.symm hh.ne.2.1))
      have hq1 := o1.tup hh hq
      have en : ((S.n + 1 : Nat) : Int) - 1 = (S.n : Int) := by omega
      refine ⟨_, rfl, _, rfl, o, _, rfl, DGet.k (k := kP) h1.top, _, _, rfl, rfl, _, rfl, q, _, _, _, rfl, rfl, SqT.of hq1, atI_nat (j := 1) rfl, o, l, d, S.more, S.n, 0, x, none, ?_, h1, (show S.puts.length < 5000 by omega), fun H2 o2 st2 h2 => ?_⟩
      · show [V.ref o, V.int (((S.n + 1 : Nat) : Int) - 1), V.int 0, V.str x, V.non] ++ [] = _
        rw [en]
        rfl
      have hq2 := o2.tup h1 hq1
      have o12 := o1.trans o2
      have st12 := st1.trans st2 (o1.there h1)
      refine ⟨_, rfl, o, _, rfl, DGet.k (k := kP) h2.top, _, _, rfl, rfl, _, rfl, o, _, rfl, DGet.k (k := kP) h2.top, _, _, rfl, rfl, _, rfl, q, _, _, _, rfl, rfl, SqT.of hq2, atI_nat (j := 1) rfl, _, rfl, (by show 4 ≤ sizeLine; decide), fun a na => ⟨(by show 1 ≤ sizeLine; decide), fun b nb => ⟨(by show 2 ≤ sizeLine; decide), fun r nr => ?_⟩⟩⟩
      have sa : Same H2 (upd H2 a (.tup [V.str "phrase", V.int (((S.n + 1 : Nat) : Int) - 1), V.str x, V.int (S.puts.length : Int)])) := same_upd na
      have hla := ln_one (n := .phrase S.n x (S.puts.length : Int)) (H := upd H2 a (.tup [V.str "phrase", V.int (((S.n + 1 : Nat) : Int) - 1), V.str x, V.int (S.puts.length : Int)])) (a := b) (b := a) (by rw [upd_same, en]; rfl) nb
      have sr := (sa.trans (same_upd nb (o := .lst [V.ref a]))).trans (same_upd nr (o := .tup [V.int (((S.n + 1 : Nat) : Int) - 1), V.ref b]))
      exact k _ r _ b (o12.same sr) (st12.trans (Still.same h2 sr) (o12.there h2)) (h2.same sr) (o12.gone h2 (sa.free ((same_upd nb).free nr))) upd_same (congrArg V.int en) (o12.gone h2 (sa.free nb)) (hla.same (same_upd nr))
    | put p t x s0 ov =>
      refine ⟨_, (pss_cons (ps_if (pt_cmpR op_eq (pe_ix ix_tup (pv 2) pe_int (fun _ _ => rfl)) pe_str (nomark _))
      (pss_cons (ps_dput (hu_of hr) (pv 0) pe_str (pe_op op_add (pe_dget (hu_of hr) (pv 0) pe_str (fun _ _ => rfl)) pe_int) rfl)
      (pss_cons (ps_set (i := 7) sc_law_come.nd rfl (Or.inl rfl) (C8.pe_c (c_law_put T) hr (by decide) rfl (pa_cons (pv 0) (pa_cons (pe_op op_sub (pe_dget (hu_of hr) (pv 0) pe_str (fun _ _ => rfl)) pe_int) (pa_cons pe_int (pa_cons (pe_ix ix_tup (pv 2) pe_int (fun _ _ => rfl)) (pa_cons pe_non pa_nil)))))))
      (pss_one (ps_ret (pe_tup (pa_cons (pe_op op_sub (pe_dget (hu_of hr) (pv 0) pe_str (fun _ _ => rfl)) pe_int) (pa_cons (pe_lst (pa_cons (pe_tup (pa_cons pe_str (pa_cons (pe_op op_sub (pe_dget (hu_of hr) (pv 0) pe_str (fun _ _ => rfl)) pe_int) (pa_cons (pe_ix ix_tup (pv 2) pe_int (fun _ _ => rfl)) (pa_cons (pv 7) pa_nil))))) pa_nil)) pa_nil)))))))
      pss_nil)
    (pss_cons (ps_if (pt_cmpR op_eq (pe_ix ix_tup (pv 2) pe_int (fun _ _ => rfl)) pe_str (nomark _))
      (pss_cons (ps_set (i := 7) sc_law_come.nd rfl (Or.inl rfl) (C8.pe_c (c_law_put T) hr (by decide) rfl (pa_cons (pv 0) (pa_cons (pe_ix ix_tup (pv 2) pe_int (fun _ _ => rfl)) (pa_cons (pe_ix ix_tup (pv 2) pe_int (fun _ _ => rfl)) (pa_cons (pe_ix ix_tup (pv 2) pe_int (fun _ _ => rfl)) (pa_cons (pe_ix ix_tup (pv 2) pe_int (fun _ _ => rfl)) pa_nil)))))))
      (pss_one (ps_ret (pe_tup (pa_cons (pv 7) (pa_cons (pe_lst (pa_cons (pe_op op_catT (pv 2) (pe_tup (pa_cons (pv 7) pa_nil))) pa_nil)) pa_nil))))))
      pss_nil)
    (pss_cons (ps_if (pt_cmpR op_eq (pe_ix ix_tup (pv 2) pe_int (fun _ _ => rfl)) pe_str (nomark _))
      (pss_cons (ps_set (i := 8) sc_law_come.nd rfl (Or.inl rfl) (pe_dget (hu_of hr) (pe_dget (hu_of hr) (pv 0) pe_str (fun _ _ => rfl)) (pe_tup (pa_cons (pe_ix ix_tup (pv 2) pe_int (fun _ _ => rfl)) (pa_cons (pe_ix ix_tup (pv 2) pe_int (fun _ _ => rfl)) pa_nil))) (fun _ _ => rfl)))
      (pss_cons (ps_dput (hu_of hr) (pe_dget (hu_of hr) (pv 0) pe_str (fun _ _ => rfl)) (pe_tup (pa_cons (pe_ix ix_tup (pv 2) pe_int (fun _ _ => rfl)) (pa_cons (pe_ix ix_tup (pv 2) pe_int (fun _ _ => rfl)) pa_nil))) (pe_slice sl_list (pv 8) po_none (po_some (pe_un un_neg pe_int))) rfl)
      (pss_one (ps_ret (pe_tup (pa_cons (pe_ix ix_list (pv 8) (pe_un un_neg pe_int) (fun _ _ => rfl)) (pa_cons (pe_lst (pa_cons (pe_op op_catT (pv 2) (pe_tup (pa_cons (pe_ix ix_list (pv 8) (pe_un un_neg pe_int) (fun _ _ => rfl)) pa_nil))) pa_nil)) pa_nil)))))))
      pss_nil)
    (pss_cons (ps_par3 (i := 3) (j := 4) (l := 5) (by rfl) sc_law_come.nd rfl rfl rfl (by decide) (by decide) (by decide) rfl rfl rfl (pa_cons (pe_lst pa_nil) (pa_cons (pe_lst pa_nil) (pa_cons (pe_ix ix_tup (pv 2) pe_int (fun _ _ => rfl)) pa_nil))) (by rfl))
    (pss_cons (ps_for PassesOwn.never rfl (pi_range1 (by rfl) T.f_range (pa_cons (pe_dget (hu_of hr) (pv 0) pe_str (fun _ _ => rfl)) pa_nil)) (pg_name (i := 6) sc_law_come.nd rfl (Or.inl rfl))
      (pss_cons (ps_par (i := 9) (j := 10) (by rfl) sc_law_come.nd rfl rfl (by decide) rfl rfl (pa_cons (C8.pe_c (c_law_row T) hr (by decide) rfl (pa_cons (pv 0) (pa_cons (pv 1) (pa_cons (pv 6) pa_nil)))) (pa_cons (C8.pe_c (c_law_likes T) hr (by decide) rfl (pa_cons (pv 0) (pa_cons (pv 1) (pa_cons (pv 6) (pa_cons (pv 5) pa_nil))))) pa_nil)) (by rfl))
      (pss_cons (ps_set (i := 11) sc_law_come.nd rfl (Or.inl rfl) (pe_ix ix_list (pv 1) (pe_op op_sub (pv 5) pe_int) (fun _ _ => rfl)))
      (pss_one (ps_if (PW.pt (pw_and (pt_cmpR (op_eqD hr.units) (C8.pe_c (c_law_chain T) hr (by decide) rfl (pa_cons (pv 1) (pa_cons (pv 9) (pa_cons (pv 11) pa_nil)))) (pe_lst pa_nil) (nomark _)) (pw_and (pt_cmpR (op_neD hr.units) (C8.pe_c (c_law_chain T) hr (by decide) rfl (pa_cons (pv 1) (pa_cons (pv 9) (pa_cons (pv 5) pa_nil)))) (pe_lst pa_nil) (nomark _)) (pw_and1 (pt_cmpR op_eq (pe_callB call_len_seq (by rfl) T.f_len (by decide +kernel) (pa_cons (pv 10) pa_nil)) pe_int (nomark _))))))
        (pss_cons (ps_set (i := 12) sc_law_come.nd rfl (Or.inl rfl) (pe_tup (pa_cons pe_str (pa_cons (pv 6) (pa_cons (pv 5) (pa_cons (pe_ix ix_list (pv 10) pe_int (fun _ _ => rfl)) (pa_cons (pe_ix ix_tup (pe_ix ix_list (pv 9) (pv 11) (fun _ _ => rfl)) pe_int (fun _ _ => rfl)) (pa_cons (C8.pe_c (c_law_now T) hr (by decide) rfl (pa_cons (pv 0) (pa_cons (pv 6) (pa_cons (pv 5) pa_nil)))) pa_nil))))))))
        (pss_cons (ps_expr (pe_bm PySem.F.plainAttrs_list PySem.F.slot_list_append PySem.F.type_list_append mt_append (pv 4) (pa_cons (pe_op op_catT (pv 12) (pe_tup (pa_cons (C8.pe_c (c_law_put T) hr (by decide) rfl (pa_cons (pv 0) (pa_cons (pv 6) (pa_cons (pv 5) (pa_cons (pe_ix ix_list (pv 10) pe_int (fun _ _ => rfl)) (pa_cons (pe_ix ix_tup (pe_ix ix_list (pv 9) (pv 11) (fun _ _ => rfl)) pe_int (fun _ _ => rfl)) pa_nil)))))) pa_nil))) pa_nil)))
        (pss_one (ps_expr (pe_bm PySem.F.plainAttrs_list PySem.F.slot_list_append PySem.F.type_list_append mt_append (pv 3) (pa_cons (pv 6) pa_nil))))))
        pss_nil)))))
    (pss_one (ps_ret (pe_tup (pa_cons (pv 3) (pa_cons (pv 4) pa_nil)))))))))), ?_⟩
      obtain ⟨hp, ht, tx, eo, sn⟩ := may
      refine ⟨_, rfl, q, _, _, _, rfl, rfl, SqT.of hq, atI_nat (j := 0) rfl, rfl, false, rfl, iteF ⟨_, rfl, q, _, _, _, rfl, rfl, SqT.of hq, atI_nat (j := 0) rfl, rfl, true, rfl, iteT ?_⟩⟩
      refine ⟨_, rfl, _, rfl, q, _, _, _, rfl, rfl, SqT.of hq, atI_nat (j := 1) rfl, _, rfl, q, _, _, _, rfl, rfl, SqT.of hq, atI_nat (j := 2) rfl, _, rfl, q, _, _, _, rfl, rfl, SqT.of hq, atI_nat (j := 3) rfl, _, rfl, q, _, _, _, rfl, rfl, SqT.of hq, atI_nat (j := 4) rfl, o, l, d, S, p, t, x, s0, rfl, hh, by omega, fun H2 o2 st2 h2 => ?_⟩
      have hq2 := o2.tup hh hq
      refine ⟨_, rfl, _, rfl, _, rfl, (by show 1 ≤ sizeLine; decide), fun a na => ⟨q, a, _, _, rfl, rfl, SqT.of (same_upd na _ _ hq2), SqT.of upd_same, (fun z => nomatch z), (by show 7 ≤ sizeLine; decide), (fun z => nomatch z), fun _ b nb => ⟨(by show 1 ≤ sizeLine; decide), fun c nc => ⟨(by show 2 ≤ sizeLine; decide), fun r nr => ?_⟩⟩⟩⟩
      have sa : Same H2 (upd H2 a (.tup [V.int (S.puts.length : Int)])) := same_upd na
      have sb := sa.trans (same_upd nb (o := .tup (Line.put p t x s0 ov (S.puts.length : Int)).vals))
      have hlc := ln_one (n := .put p t x s0 ov (S.puts.length : Int)) (H := upd (upd H2 a (.tup [V.int (S.puts.length : Int)])) b (.tup (Line.put p t x s0 ov (S.puts.length : Int)).vals)) (a := c) (b := b) upd_same nc
      have sc := sb.trans (same_upd nc (o := .lst [V.ref b]))
      have sr := sc.trans (same_upd nr (o := .tup [V.int (S.puts.length : Int), V.ref c]))
      exact k _ r _ c (o2.same sr) (st2.trans (Still.same h2 sr) (o2.there h2)) (h2.same sr) (o2.gone h2 (sc.free nr)) upd_same rfl (o2.gone h2 (sb.free nc)) (hlc.same (same_upd nr))
    | back p t =>
      refine ⟨_, (pss_cons (ps_if (pt_cmpR op_eq (pe_ix ix_tup (pv 2) pe_int (fun _ _ => rfl)) pe_str (nomark _))
      (pss_cons (ps_dput (hu_of hr) (pv 0) pe_str (pe_op op_add (pe_dget (hu_of hr) (pv 0) pe_str (fun _ _ => rfl)) pe_int) rfl)
      (pss_cons (ps_set (i := 7) sc_law_come.nd rfl (Or.inl rfl) (C8.pe_c (c_law_put T) hr (by decide) rfl (pa_cons (pv 0) (pa_cons (pe_op op_sub (pe_dget (hu_of hr) (pv 0) pe_str (fun _ _ => rfl)) pe_int) (pa_cons pe_int (pa_cons (pe_ix ix_tup (pv 2) pe_int (fun _ _ => rfl)) (pa_cons pe_non pa_nil)))))))
      (pss_one (ps_ret (pe_tup (pa_cons (pe_op op_sub (pe_dget (hu_of hr) (pv 0) pe_str (fun _ _ => rfl)) pe_int) (pa_cons (pe_lst (pa_cons (pe_tup (pa_cons pe_str (pa_cons (pe_op op_sub (pe_dget (hu_of hr) (pv 0) pe_str (fun _ _ => rfl)) pe_int) (pa_cons (pe_ix ix_tup (pv 2) pe_int (fun _ _ => rfl)) (pa_cons (pv 7) pa_nil))))) pa_nil)) pa_nil)))))))
      pss_nil)
    (pss_cons (ps_if (pt_cmpR op_eq (pe_ix ix_tup (pv 2) pe_int (fun _ _ => rfl)) pe_str (nomark _))
      (pss_cons (ps_set (i := 7) sc_law_come.nd rfl (Or.inl rfl) (C8.pe_c (c_law_put T) hr (by decide) rfl (pa_cons (pv 0) (pa_cons (pe_ix ix_tup (pv 2) pe_int (fun _ _ => rfl)) (pa_cons (pe_ix ix_tup (pv 2) pe_int (fun _ _ => rfl)) (pa_cons (pe_ix ix_tup (pv 2) pe_int (fun _ _ => rfl)) (pa_cons (pe_ix ix_tup (pv 2) pe_int (fun _ _ => rfl)) pa_nil)))))))
      (pss_one (ps_ret (pe_tup (pa_cons (pv 7) (pa_cons (pe_lst (pa_cons (pe_op op_catT (pv 2) (pe_tup (pa_cons (pv 7) pa_nil))) pa_nil)) pa_nil))))))
      pss_nil)
    (pss_cons (ps_if (pt_cmpR op_eq (pe_ix ix_tup (pv 2) pe_int (fun _ _ => rfl)) pe_str (nomark _))
      (pss_cons (ps_set (i := 8) sc_law_come.nd rfl (Or.inl rfl) (pe_dget (hu_of hr) (pe_dget (hu_of hr) (pv 0) pe_str (fun _ _ => rfl)) (pe_tup (pa_cons (pe_ix ix_tup (pv 2) pe_int (fun _ _ => rfl)) (pa_cons (pe_ix ix_tup (pv 2) pe_int (fun _ _ => rfl)) pa_nil))) (fun _ _ => rfl)))
      (pss_cons (ps_dput (hu_of hr) (pe_dget (hu_of hr) (pv 0) pe_str (fun _ _ => rfl)) (pe_tup (pa_cons (pe_ix ix_tup (pv 2) pe_int (fun _ _ => rfl)) (pa_cons (pe_ix ix_tup (pv 2) pe_int (fun _ _ => rfl)) pa_nil))) (pe_slice sl_list (pv 8) po_none (po_some (pe_un un_neg pe_int))) rfl)
      (pss_one (ps_ret (pe_tup (pa_cons (pe_ix ix_list (pv 8) (pe_un un_neg pe_int) (fun _ _ => rfl)) (pa_cons (pe_lst (pa_cons (pe_op op_catT (pv 2) (pe_tup (pa_cons (pe_ix ix_list (pv 8) (pe_un un_neg pe_int) (fun _ _ => rfl)) pa_nil))) pa_nil)) pa_nil)))))))
      pss_nil)
    (pss_cons (ps_par3 (i := 3) (j := 4) (l := 5) (by rfl) sc_law_come.nd rfl rfl rfl (by decide) (by decide) (by decide) rfl rfl rfl (pa_cons (pe_lst pa_nil) (pa_cons (pe_lst pa_nil) (pa_cons (pe_ix ix_tup (pv 2) pe_int (fun _ _ => rfl)) pa_nil))) (by rfl))
    (pss_cons (ps_for PassesOwn.never rfl (pi_range1 (by rfl) T.f_range (pa_cons (pe_dget (hu_of hr) (pv 0) pe_str (fun _ _ => rfl)) pa_nil)) (pg_name (i := 6) sc_law_come.nd rfl (Or.inl rfl))
      (pss_cons (ps_par (i := 9) (j := 10) (by rfl) sc_law_come.nd rfl rfl (by decide) rfl rfl (pa_cons (C8.pe_c (c_law_row T) hr (by decide) rfl (pa_cons (pv 0) (pa_cons (pv 1) (pa_cons (pv 6) pa_nil)))) (pa_cons (C8.pe_c (c_law_likes T) hr (by decide) rfl (pa_cons (pv 0) (pa_cons (pv 1) (pa_cons (pv 6) (pa_cons (pv 5) pa_nil))))) pa_nil)) (by rfl))
      (pss_cons (ps_set (i := 11) sc_law_come.nd rfl (Or.inl rfl) (pe_ix ix_list (pv 1) (pe_op op_sub (pv 5) pe_int) (fun _ _ => rfl)))
      (pss_one (ps_if (PW.pt (pw_and (pt_cmpR (op_eqD hr.units) (C8.pe_c (c_law_chain T) hr (by decide) rfl (pa_cons (pv 1) (pa_cons (pv 9) (pa_cons (pv 11) pa_nil)))) (pe_lst pa_nil) (nomark _)) (pw_and (pt_cmpR (op_neD hr.units) (C8.pe_c (c_law_chain T) hr (by decide) rfl (pa_cons (pv 1) (pa_cons (pv 9) (pa_cons (pv 5) pa_nil)))) (pe_lst pa_nil) (nomark _)) (pw_and1 (pt_cmpR op_eq (pe_callB call_len_seq (by rfl) T.f_len (by decide +kernel) (pa_cons (pv 10) pa_nil)) pe_int (nomark _))))))
        (pss_cons (ps_set (i := 12) sc_law_come.nd rfl (Or.inl rfl) (pe_tup (pa_cons pe_str (pa_cons (pv 6) (pa_cons (pv 5) (pa_cons (pe_ix ix_list (pv 10) pe_int (fun _ _ => rfl)) (pa_cons (pe_ix ix_tup (pe_ix ix_list (pv 9) (pv 11) (fun _ _ => rfl)) pe_int (fun _ _ => rfl)) (pa_cons (C8.pe_c (c_law_now T) hr (by decide) rfl (pa_cons (pv 0) (pa_cons (pv 6) (pa_cons (pv 5) pa_nil)))) pa_nil))))))))
        (pss_cons (ps_expr (pe_bm PySem.F.plainAttrs_list PySem.F.slot_list_append PySem.F.type_list_append mt_append (pv 4) (pa_cons (pe_op op_catT (pv 12) (pe_tup (pa_cons (C8.pe_c (c_law_put T) hr (by decide) rfl (pa_cons (pv 0) (pa_cons (pv 6) (pa_cons (pv 5) (pa_cons (pe_ix ix_list (pv 10) pe_int (fun _ _ => rfl)) (pa_cons (pe_ix ix_tup (pe_ix ix_list (pv 9) (pv 11) (fun _ _ => rfl)) pe_int (fun _ _ => rfl)) pa_nil)))))) pa_nil))) pa_nil)))
        (pss_one (ps_expr (pe_bm PySem.F.plainAttrs_list PySem.F.slot_list_append PySem.F.type_list_append mt_append (pv 3) (pa_cons (pv 6) pa_nil))))))
        pss_nil)))))
    (pss_one (ps_ret (pe_tup (pa_cons (pv 3) (pa_cons (pv 4) pa_nil)))))))))), ?_⟩
      obtain ⟨hp, ht, hlt⟩ := may
      refine ⟨_, rfl, q, _, _, _, rfl, rfl, SqT.of hq, atI_nat (j := 0) rfl, rfl, false, rfl, iteF ⟨_, rfl, q, _, _, _, rfl, rfl, SqT.of hq, atI_nat (j := 0) rfl, rfl, false, rfl, iteF ⟨_, rfl, q, _, _, _, rfl, rfl, SqT.of hq, atI_nat (j := 0) rfl, rfl, true, rfl, iteT ?_⟩⟩⟩
      obtain ⟨kvs, hd, hk, hL⟩ := hh.lie
      obtain ⟨n1, n2, n3⟩ := hh.ne
      have ne0 : S.lie p t ≠ [] := fun z => by
        rw [z] at hlt
        exact absurd hlt (Nat.not_lt_zero _)
      obtain ⟨y, ly, ey, ely, nly, hly⟩ : ∃ v a, valV kvs (ty p t) = some v ∧ v = .ref a ∧ a ≠ l ∧ LsAt H a (S.lie p t) := by
        have z := hL p t
        cases ev : valV kvs (ty p t) with
        | none =>
          rw [ev] at z
          exact absurd z ne0
        | some v =>
          rw [ev] at z
          obtain ⟨a, h1, h2, h3⟩ := z
          exact ⟨v, a, rfl, h1, h2, h3⟩
      subst ely
      obtain ⟨j, ej⟩ : ∃ j, S.now p t = some j := by
        cases e : S.now p t with
        | none => exact absurd (List.getLast?_eq_none_iff.mp e) ne0
        | some j => exact ⟨j, rfl⟩
      refine ⟨_, rfl, o, _, rfl, DGet.k (k := kL) hh.top, _, rfl, q, _, _, _, rfl, rfl, SqT.of hq, atI_nat (j := 1) rfl, _, rfl, q, _, _, _, rfl, rfl, SqT.of hq, atI_nat (j := 2) rfl, (by show 2 ≤ sizeLine; decide), fun c1 nc1 => ?_⟩
      have s1 : Same H (upd H c1 (.tup [V.int (p : Int), V.int (t : Int)])) := same_upd nc1
      have hc1 : (upd H c1 (.tup [V.int (p : Int), V.int (t : Int)])) c1 = some (.tup ((ty p t).map kV)) := upd_same
      refine ⟨d, _, rfl, ey ▸ DGet.t (s1 _ _ hd) hc1, ?_⟩
      generalize upd H c1 (.tup [V.int (p : Int), V.int (t : Int)]) = H1 at s1 hc1 ⊢
      refine ⟨_, rfl, _, rfl, _, rfl, ly, _, rfl, SqL.of (hly.same s1), fun e ne => ?_⟩
      have s2 : Same H (upd H1 e (.lst (cutV ((S.lie p t).map V.int) none (some (-1))))) := s1.trans (same_upd ne)
      have he2 : LsAt (upd H1 e (.lst (cutV ((S.lie p t).map V.int) none (some (-1))))) e (S.lie p t).dropLast := by
        unfold LsAt
        rw [upd_same, cutLast]
      have nel : e ≠ l := by
        obtain ⟨vs, hv, _⟩ := hh.puts
        exact Ne.symm (ne_of_none (s1 _ _ hv) ne)
      have newe : ∀ b x, H b = some x → b ≠ e := fun b x eb => ne_of_none (s1 _ _ eb) ne
      generalize upd H1 e (.lst (cutV ((S.lie p t).map V.int) none (some (-1)))) = H2 at s2 he2 ⊢
      refine ⟨_, rfl, o, _, rfl, DGet.k (k := kL) (hh.same s2).top, _, rfl, q, _, _, _, rfl, rfl, SqT.of (s2 _ _ hq), atI_nat (j := 1) rfl, _, rfl, q, _, _, _, rfl, rfl, SqT.of (s2 _ _ hq), atI_nat (j := 2) rfl, (by show 2 ≤ sizeLine; decide), fun c3 nc3 => ?_⟩
      have s3 : Same H (upd H2 c3 (.tup [V.int (p : Int), V.int (t : Int)])) := s2.trans (same_upd nc3)
      have hc3 : (upd H2 c3 (.tup [V.int (p : Int), V.int (t : Int)])) c3 = some (.tup ((ty p t).map kV)) := upd_same
      have he3 := he2.same (same_upd nc3 (o := .tup [V.int (p : Int), V.int (t : Int)]))
      generalize upd H2 c3 (.tup [V.int (p : Int), V.int (t : Int)]) = H3 at s3 hc3 he3 ⊢
      obtain ⟨h4, o4⟩ := hh.back s3 (s3 _ _ hd) (by rw [ey]; rfl) nel he3
      have st4 : Still H (upd H3 d (.dT (putK kvs (ty p t) (.ref e)))) d := still_put hh hd newe
      refine ⟨d, _, rfl, DPut.t (s3 _ _ hd) hc3 (small5000 (by omega)), ?_⟩
      have hq4 := o4.tup hh hq
      have hly4 := o4.ls hh nly hly
      generalize upd H3 d (.dT (putK kvs (ty p t) (.ref e))) = H4 at h4 o4 st4 hq4 hly4 ⊢
      refine ⟨_, rfl, _, rfl, ly, _, _, _, rfl, rfl, SqL.of hly4, last_at ej, _, rfl, _, rfl, _, rfl, ly, _, _, _, rfl, rfl, SqL.of hly4, last_at ej, (by show 1 ≤ sizeLine; decide), fun a na => ⟨q, a, _, _, rfl, rfl, SqT.of (same_upd na _ _ hq4), SqT.of upd_same, (fun z => nomatch z), (by show 4 ≤ sizeLine; decide), (fun z => nomatch z), fun _ b nb => ⟨(by show 1 ≤ sizeLine; decide), fun c nc => ⟨(by show 2 ≤ sizeLine; decide), fun r nr => ?_⟩⟩⟩⟩
      have sa : Same H4 (upd H4 a (.tup [V.int j])) := same_upd na
      have sb := sa.trans (same_upd nb (o := .tup (Line.back p t j).vals))
      have hlc := ln_one (n := .back p t j) (H := upd (upd H4 a (.tup [V.int j])) b (.tup (Line.back p t j).vals)) (a := c) (b := b) upd_same nc
      have sc := sb.trans (same_upd nc (o := .lst [V.ref b]))
      have sr := sc.trans (same_upd nr (o := .tup [V.int j, V.ref c]))
      have ec : S.come fr (.back p t) = (S.off p t, .num j, [.back p t j]) := by
        show (S.off p t, Res.num ((S.now p t).getD 0), [Line.back p t ((S.now p t).getD 0)]) = _
        rw [ej]
        rfl
      rw [ec] at k
      exact k _ r _ c (o4.same sr) (st4.trans (Still.same h4 sr) (o4.there h4)) (h4.same sr) (o4.gone h4 (sc.free nr)) upd_same rfl (o4.gone h4 (sb.free nc)) (hlc.same (same_upd nr))
    | fill t =>
      refine ⟨_, (pss_cons (ps_if (pt_cmpR op_eq (pe_ix ix_tup (pv 2) pe_int (fun _ _ => rfl)) pe_str (nomark _))
      (pss_cons (ps_dput (hu_of hr) (pv 0) pe_str (pe_op op_add (pe_dget (hu_of hr) (pv 0) pe_str (fun _ _ => rfl)) pe_int) rfl)
      (pss_cons (ps_set (i := 7) sc_law_come.nd rfl (Or.inl rfl) (C8.pe_c (c_law_put T) hr (by decide) rfl (pa_cons (pv 0) (pa_cons (pe_op op_sub (pe_dget (hu_of hr) (pv 0) pe_str (fun _ _ => rfl)) pe_int) (pa_cons pe_int (pa_cons (pe_ix ix_tup (pv 2) pe_int (fun _ _ => rfl)) (pa_cons pe_non pa_nil)))))))
      (pss_one (ps_ret (pe_tup (pa_cons (pe_op op_sub (pe_dget (hu_of hr) (pv 0) pe_str (fun _ _ => rfl)) pe_int) (pa_cons (pe_lst (pa_cons (pe_tup (pa_cons pe_str (pa_cons (pe_op op_sub (pe_dget (hu_of hr) (pv 0) pe_str (fun _ _ => rfl)) pe_int) (pa_cons (pe_ix ix_tup (pv 2) pe_int (fun _ _ => rfl)) (pa_cons (pv 7) pa_nil))))) pa_nil)) pa_nil)))))))
      pss_nil)
    (pss_cons (ps_if (pt_cmpR op_eq (pe_ix ix_tup (pv 2) pe_int (fun _ _ => rfl)) pe_str (nomark _))
      (pss_cons (ps_set (i := 7) sc_law_come.nd rfl (Or.inl rfl) (C8.pe_c (c_law_put T) hr (by decide) rfl (pa_cons (pv 0) (pa_cons (pe_ix ix_tup (pv 2) pe_int (fun _ _ => rfl)) (pa_cons (pe_ix ix_tup (pv 2) pe_int (fun _ _ => rfl)) (pa_cons (pe_ix ix_tup (pv 2) pe_int (fun _ _ => rfl)) (pa_cons (pe_ix ix_tup (pv 2) pe_int (fun _ _ => rfl)) pa_nil)))))))
      (pss_one (ps_ret (pe_tup (pa_cons (pv 7) (pa_cons (pe_lst (pa_cons (pe_op op_catT (pv 2) (pe_tup (pa_cons (pv 7) pa_nil))) pa_nil)) pa_nil))))))
      pss_nil)
    (pss_cons (ps_if (pt_cmpR op_eq (pe_ix ix_tup (pv 2) pe_int (fun _ _ => rfl)) pe_str (nomark _))
      (pss_cons (ps_set (i := 8) sc_law_come.nd rfl (Or.inl rfl) (pe_dget (hu_of hr) (pe_dget (hu_of hr) (pv 0) pe_str (fun _ _ => rfl)) (pe_tup (pa_cons (pe_ix ix_tup (pv 2) pe_int (fun _ _ => rfl)) (pa_cons (pe_ix ix_tup (pv 2) pe_int (fun _ _ => rfl)) pa_nil))) (fun _ _ => rfl)))
      (pss_cons (ps_dput (hu_of hr) (pe_dget (hu_of hr) (pv 0) pe_str (fun _ _ => rfl)) (pe_tup (pa_cons (pe_ix ix_tup (pv 2) pe_int (fun _ _ => rfl)) (pa_cons (pe_ix ix_tup (pv 2) pe_int (fun _ _ => rfl)) pa_nil))) (pe_slice sl_list (pv 8) po_none (po_some (pe_un un_neg pe_int))) rfl)
      (pss_one (ps_ret (pe_tup (pa_cons (pe_ix ix_list (pv 8) (pe_un un_neg pe_int) (fun _ _ => rfl)) (pa_cons (pe_lst (pa_cons (pe_op op_catT (pv 2) (pe_tup (pa_cons (pe_ix ix_list (pv 8) (pe_un un_neg pe_int) (fun _ _ => rfl)) pa_nil))) pa_nil)) pa_nil)))))))
      pss_nil)
    (pss_cons (ps_par3 (i := 3) (j := 4) (l := 5) (by rfl) sc_law_come.nd rfl rfl rfl (by decide) (by decide) (by decide) rfl rfl rfl (pa_cons (pe_lst pa_nil) (pa_cons (pe_lst pa_nil) (pa_cons (pe_ix ix_tup (pv 2) pe_int (fun _ _ => rfl)) pa_nil))) (by rfl))
    (pss_cons (ps_for PassesOwn.never rfl (pi_range1 (by rfl) T.f_range (pa_cons (pe_dget (hu_of hr) (pv 0) pe_str (fun _ _ => rfl)) pa_nil)) (pg_name (i := 6) sc_law_come.nd rfl (Or.inl rfl))
      (pss_cons (ps_par (i := 9) (j := 10) (by rfl) sc_law_come.nd rfl rfl (by decide) rfl rfl (pa_cons (C8.pe_c (c_law_row T) hr (by decide) rfl (pa_cons (pv 0) (pa_cons (pv 1) (pa_cons (pv 6) pa_nil)))) (pa_cons (C8.pe_c (c_law_likes T) hr (by decide) rfl (pa_cons (pv 0) (pa_cons (pv 1) (pa_cons (pv 6) (pa_cons (pv 5) pa_nil))))) pa_nil)) (by rfl))
      (pss_cons (ps_set (i := 11) sc_law_come.nd rfl (Or.inl rfl) (pe_ix ix_list (pv 1) (pe_op op_sub (pv 5) pe_int) (fun _ _ => rfl)))
      (pss_one (ps_if (PW.pt (pw_and (pt_cmpR (op_eqD hr.units) (C8.pe_c (c_law_chain T) hr (by decide) rfl (pa_cons (pv 1) (pa_cons (pv 9) (pa_cons (pv 11) pa_nil)))) (pe_lst pa_nil) (nomark _)) (pw_and (pt_cmpR (op_neD hr.units) (C8.pe_c (c_law_chain T) hr (by decide) rfl (pa_cons (pv 1) (pa_cons (pv 9) (pa_cons (pv 5) pa_nil)))) (pe_lst pa_nil) (nomark _)) (pw_and1 (pt_cmpR op_eq (pe_callB call_len_seq (by rfl) T.f_len (by decide +kernel) (pa_cons (pv 10) pa_nil)) pe_int (nomark _))))))
        (pss_cons (ps_set (i := 12) sc_law_come.nd rfl (Or.inl rfl) (pe_tup (pa_cons pe_str (pa_cons (pv 6) (pa_cons (pv 5) (pa_cons (pe_ix ix_list (pv 10) pe_int (fun _ _ => rfl)) (pa_cons (pe_ix ix_tup (pe_ix ix_list (pv 9) (pv 11) (fun _ _ => rfl)) pe_int (fun _ _ => rfl)) (pa_cons (C8.pe_c (c_law_now T) hr (by decide) rfl (pa_cons (pv 0) (pa_cons (pv 6) (pa_cons (pv 5) pa_nil)))) pa_nil))))))))
        (pss_cons (ps_expr (pe_bm PySem.F.plainAttrs_list PySem.F.slot_list_append PySem.F.type_list_append mt_append (pv 4) (pa_cons (pe_op op_catT (pv 12) (pe_tup (pa_cons (C8.pe_c (c_law_put T) hr (by decide) rfl (pa_cons (pv 0) (pa_cons (pv 6) (pa_cons (pv 5) (pa_cons (pe_ix ix_list (pv 10) pe_int (fun _ _ => rfl)) (pa_cons (pe_ix ix_tup (pe_ix ix_list (pv 9) (pv 11) (fun _ _ => rfl)) pe_int (fun _ _ => rfl)) pa_nil)))))) pa_nil))) pa_nil)))
        (pss_one (ps_expr (pe_bm PySem.F.plainAttrs_list PySem.F.slot_list_append PySem.F.type_list_append mt_append (pv 3) (pa_cons (pv 6) pa_nil))))))
        pss_nil)))))
    (pss_one (ps_ret (pe_tup (pa_cons (pv 3) (pa_cons (pv 4) pa_nil)))))))))), ?_⟩
      obtain ⟨t0, t1⟩ := may
      have up1 := up_lt fo t0 t1
      have n6 := ok.six
      have hi7 := fo.hi
      obtain ⟨xx, ex, x0, xl, xu⟩ := fo.at t0 t1
      subst xu
      refine ⟨_, rfl, q, _, _, _, rfl, rfl, SqT.of hq, atI_nat (j := 0) rfl, rfl, false, rfl, iteF ⟨_, rfl, q, _, _, _, rfl, rfl, SqT.of hq, atI_nat (j := 0) rfl, rfl, false, rfl, iteF ⟨_, rfl, q, _, _, _, rfl, rfl, SqT.of hq, atI_nat (j := 0) rfl, rfl, false, rfl, iteF ?_⟩⟩⟩
      refine ⟨Nat.zero_le _, fun F nF => ⟨Nat.zero_le _, fun L nL => ?_⟩⟩
      have s1 : Same H (upd H F (.lst [])) := same_upd nF
      have s2 : Same H (upd (upd H F (.lst [])) L (.lst [])) := s1.trans (same_upd nL)
      have hF2 : LsAt (upd (upd H F (.lst [])) L (.lst [])) F [] := same_upd nL _ _ upd_same
      have hL2 : LnAt (upd (upd H F (.lst [])) L (.lst [])) L [] := ⟨[], upd_same, All2.nil⟩
      have nFL : F ≠ L := ne_of_none upd_same nL
      have nL0 : H L = none := s1.free nL
      obtain ⟨vsl, hvl, _⟩ := hh.puts
      have nFl : F ≠ l := Ne.symm (ne_of_none hvl nF)
      have nLl : L ≠ l := Ne.symm (ne_of_none hvl nL0)
      have av1 : Avoid (upd (upd H F (.lst [])) L (.lst [])) d (· = F) := by
        obtain ⟨kvs, h1, _⟩ := hh.lie
        exact (hh.new nF).eq (by rw [s2 _ _ h1, h1])
      have av2 : Avoid (upd (upd H F (.lst [])) L (.lst [])) d (· = L) := by
        obtain ⟨kvs, h1, _⟩ := hh.lie
        exact (hh.new nL0).eq (by rw [s2 _ _ h1, h1])
      have hh2 := hh.same s2
      generalize upd (upd H F (.lst [])) L (.lst []) = H2 at s2 hF2 hL2 av1 av2 hh2 ⊢
      refine ⟨_, rfl, q, _, _, _, rfl, rfl, SqT.of (s2 _ _ hq), atI_nat (j := 1) rfl, _, _, _, rfl, ?_⟩
      refine ⟨_, rfl, o, _, rfl, DGet.k (k := kP) hh2.top, _, rfl, by omega, by omega, ?_⟩
      refine for_range (lo := 0) (n := (S.n : Int).toNat) (fun i σ H4 => ∃ v6 v9 v10 v11 v12 : Option V, σ = [some (.ref o), some (.ref f), some (.ref q), some (.ref F), some (.ref L), some (.int t), v6, none, none, v9, v10, v11, v12] ∧ Off o l d H H4 ∧ Still H H4 d ∧ Here H4 o l d (S.fillTo fr t i).1 ∧ LsAt H4 F (S.fillTo fr t i).2.1 ∧ LnAt H4 L (S.fillTo fr t i).2.2 ∧ Avoid H4 d (· = F) ∧ Avoid H4 d (· = L))
        ⟨none, none, none, none, none, rfl, Off.refl.same s2, Still.same hh s2, hh2, hF2, hL2, av1, av2⟩ ?_ ?_
      · rintro i σ H4 hi ⟨v6, v9, v10, v11, v12, rfl, o4, st4, h4, hF4, hL4, avF, avL⟩
        have hin : i < S.n := by omega
        rw [show (0 + (i : Int)) = (i : Int) from Int.zero_add _]
        have fk := fillTo_ok ok fo t0 t1 i (by omega)
        rw [De.fillTo_succ]
        generalize S.fillTo fr t i = A at h4 hF4 hL4 fk ⊢
        have An := fk.n
        have hf4 := o4.ls hh nfl hf
        refine ⟨_, rfl, _, rfl, _, rfl, o, l, d, A.1, f, fr, i, rfl, h4, fk.ok.num, hf4, by omega, fun H5 r s5 nr hr5 => ?_⟩
        refine ⟨_, rfl, _, rfl, _, rfl, _, rfl, o, l, d, A.1, f, fr, i, t, rfl, h4.same s5, fk.ok, LsAt.same s5 hf4, fo, t0, t1, fun H6 a ts s6 na ha srt nd mem => ⟨_, _, rfl, ?_⟩⟩
        have s46 := s5.trans s6
        have hf6 := LsAt.same s46 hf4
        have hr6 := hr5.same s6
        have rok := fk.ok.row (p := i) (by omega)
        refine ⟨_, rfl, _, rfl, _, _, rfl, rfl, f, _, _, _, rfl, rfl, SqL.of hf6, at_of (j := t - 1) (by omega) (ivs ex), ?_⟩
        refine ⟨_, rfl, _, rfl, _, rfl, f, fr, r, _, up fr t, rfl, ⟨hf6, fo, hr6, rok, by omega⟩, fun H7 c7 s7 nc7 hc7 => ⟨Nat.zero_le _, fun g7 ng7 => ⟨_, _, dp_ints (hc7.same (same_upd ng7)), dp_ints (ns := []) upd_same, shaped_ints _, shaped_ints _, (chain fr (A.1.row (fr.length + 1) i) (up fr t)).isNone, ?_, ?_⟩⟩⟩
        · rw [eqv_ints]
          refine congrArg V.bl ?_
          cases ec : chain fr (A.1.row (fr.length + 1) i) (up fr t) with
          | none => rfl
          | some c => exact decide_eq_false (chain_mem fo _ c (by omega) ec).1
        have s48 : Same H4 (upd H7 g7 (.lst [])) := (s46.trans s7).trans (same_upd ng7)
        have s68 : Same H6 (upd H7 g7 (.lst [])) := s7.trans (same_upd ng7)
        generalize upd H7 g7 (.lst []) = H8 at s48 s68 ⊢
        have no : ∀ (H9 : Hp) (w9 w10 w11 : Option V), Same H4 H9 → De.fillOne fr t A i = A → ∃ v6 v9 v10 v11 v12' : Option V, [some (V.ref o), some (V.ref f), some (V.ref q), some (V.ref F), some (V.ref L), some (V.int t), some (V.int i), none, none, w9, w10, w11, v12] = [some (.ref o), some (.ref f), some (.ref q), some (.ref F), some (.ref L), some (.int t), v6, none, none, v9, v10, v11, v12'] ∧ Off o l d H H9 ∧ Still H H9 d ∧ Here H9 o l d (De.fillOne fr t A i).1 ∧ LsAt H9 F (De.fillOne fr t A i).2.1 ∧ LnAt H9 L (De.fillOne fr t A i).2.2 ∧ Avoid H9 d (· = F) ∧ Avoid H9 d (· = L) := by
          intro H9 w9 w10 w11 s9 e
          rw [e]
          obtain ⟨kvs, hk, _⟩ := h4.lie
          exact ⟨_, _, _, _, _, rfl, o4.same s9, st4.trans (Still.same h4 s9) (o4.there h4), h4.same s9, hF4.same s9, hL4.same s9, avF.eq (by rw [s9 _ _ hk, hk]), avL.eq (by rw [s9 _ _ hk, hk])⟩
        by_cases e1 : ¬ chain fr (A.1.row (fr.length + 1) i) (up fr t) = none
        · rw [Option.isNone_eq_false_iff.mpr (Option.isSome_iff_ne_none.mpr e1)]
          exact iteF (iteF (no H8 _ _ _ s48 (De.fill_no (.inl e1))))
        have e1 := Classical.not_not.mp e1
        rw [e1]
        refine iteT ⟨_, rfl, _, rfl, _, rfl, f, fr, r, _, t, rfl, ⟨hf6.same s68, fo, hr6.same s68, rok, t1⟩, fun H9 c9 s9 nc9 hc9 => ⟨Nat.zero_le _, fun g9 ng9 => ⟨_, _, dp_ints (hc9.same (same_upd ng9)), dp_ints (ns := []) upd_same, shaped_ints _, shaped_ints _, (chain fr (A.1.row (fr.length + 1) i) t).isSome, ?_, ?_⟩⟩⟩
        · rw [eqv_ints]
          refine congrArg V.bl ?_
          cases ec : chain fr (A.1.row (fr.length + 1) i) t with
          | none => rfl
          | some c =>
            show (!decide (c = [])) = true
            rw [decide_eq_false (chain_mem fo _ c t1 ec).1]
            rfl
        have s410 : Same H4 (upd H9 g9 (.lst [])) := (s48.trans s9).trans (same_upd ng9)
        have s610 : Same H6 (upd H9 g9 (.lst [])) := (s68.trans s9).trans (same_upd ng9)
        generalize upd H9 g9 (.lst []) = H10 at s410 s610 ⊢
        by_cases e2 : chain fr (A.1.row (fr.length + 1) i) t = none
        · rw [e2]
          exact iteF (iteF (no H10 _ _ _ s410 (De.fill_no (.inr (.inl e2)))))
        rw [Option.isSome_iff_ne_none.mpr e2]
        refine iteT ⟨_, rfl, a, _, rfl, .inl (SqL.of (s610 _ _ ha)), rfl, decide (ts.length = 1), ?_, ?_⟩
        · rw [List.length_map]
          exact congrArg V.bl (dec_nat (y := 1))
        rcases (only_list nd mem).symm with ⟨e3, e4⟩ | ⟨x, rfl, e3⟩
        · rw [decide_eq_false e3]
          exact iteF (no H10 _ _ _ s410 (De.fill_no (.inr (.inr e4))))
        obtain ⟨kk0, ek⟩ := fk.ok.above fo (p := i) (by omega) (by omega) e1
        obtain ⟨wr, hwr, hcr⟩ := hr6
        obtain ⟨w, ew, cw⟩ := hcr.each (up fr t) _ (De.row_at (by omega))
        unfold De.cell at cw
        rw [ek] at cw
        obtain ⟨b2, rfl, hb2⟩ := cw
        have hw10 := s610 _ _ hwr
        have hb10 := s610 _ _ hb2
        have ha10 := s610 _ _ ha
        rw [De.fill_yes e1 e2 e3, ek]
        refine iteT ⟨_, rfl, _, rfl, _, rfl, a, _, _, _, rfl, rfl, SqL.of ha10, atI_nat (j := 0) rfl, _, rfl, _, rfl, r, _, _, _, rfl, rfl, SqL.of hw10, at_of (j := up fr t) rfl ew, b2, _, _, _, rfl, rfl, SqT.of hb10, atI_nat (j := 0) rfl, _, rfl, _, rfl, _, rfl, o, l, d, A.1, i, t, rfl, h4.same s410, fun H11 s11 => ⟨(by show 6 ≤ sizeLine; decide), fun ln nln => ?_⟩⟩
        have s412 : Same H4 (upd H11 ln (.tup [V.str "put", V.int (i : Int), V.int (t : Int), V.str x, V.int kk0, oV (A.1.now i t)])) := (s410.trans s11).trans (same_upd nln)
        have s1012 : Same H10 (upd H11 ln (.tup [V.str "put", V.int (i : Int), V.int (t : Int), V.str x, V.int kk0, oV (A.1.now i t)])) := s11.trans (same_upd nln)
        have hln : (upd H11 ln (.tup [V.str "put", V.int (i : Int), V.int (t : Int), V.str x, V.int kk0, oV (A.1.now i t)])) ln = some (.tup [V.str "put", V.int (i : Int), V.int (t : Int), V.str x, V.int kk0, oV (A.1.now i t)]) := upd_same
        generalize upd H11 ln (.tup [V.str "put", V.int (i : Int), V.int (t : Int), V.str x, V.int kk0, oV (A.1.now i t)]) = H12 at s412 s1012 hln ⊢
        have h12 := h4.same s412
        have hL12 := hL4.same s412
        obtain ⟨wl, hwl, hal⟩ := id hL12
        have al := fk.len
        refine ⟨_, rfl, .inl ⟨rfl, _, SqL.of hwl⟩, _, rfl, _, rfl, _, rfl, _, rfl, _, rfl, a, _, _, _, rfl, rfl, SqL.of (s1012 _ _ ha10), atI_nat (j := 0) rfl, _, rfl, _, rfl, r, _, _, _, rfl, rfl, SqL.of (s1012 _ _ hw10), at_of (j := up fr t) rfl ew, b2, _, _, _, rfl, rfl, SqT.of (s1012 _ _ hb10), atI_nat (j := 0) rfl, o, l, d, A.1, i, t, x, some kk0, rfl, h12, by omega, fun H13 o13 st13 h13 => ⟨(by show 1 ≤ sizeLine; decide), fun u nu => ?_⟩⟩
        have hln13 := o13.tup h12 hln
        have hL13 := hL12.off o13 h12 nLl
        have hF13 : LsAt H13 F A.2.1 := o13.ls h12 nFl (hF4.same s412)
        have o413 := o4.trans ((Off.refl.same s412).trans o13)
        obtain ⟨kvs4, hk4, _⟩ := h4.lie
        have av12 : ∀ R, Avoid H4 d R → Avoid H12 d R := fun R z => z.eq (by rw [s412 _ _ hk4, hk4])
        have avF13 := st13 (· = F) (fun c z => by rw [z]; exact ⟨_, hF4.same s412⟩) (av12 _ avF)
        have avL13 := st13 (· = L) (fun c z => by rw [z]; exact ⟨_, hwl⟩) (av12 _ avL)
        have st413 : Still H H13 d := (st4.trans (Still.same h4 s412) (o4.there h4)).trans st13 ((o4.same s412).there h12)
        refine ⟨ln, u, _, _, rfl, rfl, SqT.of (same_upd nu _ _ hln13), SqT.of upd_same, (fun z => nomatch z), (by show 7 ≤ sizeLine; decide), (fun z => nomatch z), fun _ v nv => ?_⟩
        have s14 : Same H13 (upd (upd H13 u (.tup [V.int (A.1.puts.length : Int)])) v (.tup (Line.put i t x (some kk0) (A.1.now i t) (A.1.puts.length : Int)).vals)) := (same_upd nu).trans (same_upd nv)
        have hv14 : (upd (upd H13 u (.tup [V.int (A.1.puts.length : Int)])) v (.tup (Line.put i t x (some kk0) (A.1.now i t) (A.1.puts.length : Int)).vals)) v = some (.tup (Line.put i t x (some kk0) (A.1.now i t) (A.1.puts.length : Int)).vals) := upd_same
        have hL14 := hL13.same s14
        have h14 := h13.same s14
        have hF14 := hF13.same s14
        have o414 := o413.same s14
        obtain ⟨kvs13, hk13, _⟩ := h13.lie
        have av14 : ∀ R, Avoid H13 d R → Avoid (upd (upd H13 u (.tup [V.int (A.1.puts.length : Int)])) v (.tup (Line.put i t x (some kk0) (A.1.now i t) (A.1.puts.length : Int)).vals)) d R := fun R z => z.eq (by rw [s14 _ _ hk13, hk13])
        have avF14 := av14 _ avF13
        have avL14 := av14 _ avL13
        have st414 := st413.trans (Still.same h13 s14) (o413.there h13)
        obtain ⟨wl', hwl', hal'⟩ := id hL14
        have lsz : wl'.length < sizeLine := by
          rw [hal'.len]
          have := fk.l
          exact small1000 (by omega)
        refine ⟨L, _, _, rfl, rfl, hwl', lsz, ?_⟩
        obtain ⟨h15, av15⟩ := h14.chg (x := .lst (wl' ++ [V.ref v])) nLl hwl' avL14
        have hL15 := hL14.snoc hwl' (v := .ref v) (e := .put i t x (some kk0) (A.1.now i t) (A.1.puts.length : Int)) ⟨v, rfl, hv14⟩
        have hF15 : LsAt (upd (upd (upd H13 u (.tup [V.int (A.1.puts.length : Int)])) v (.tup (Line.put i t x (some kk0) (A.1.now i t) (A.1.puts.length : Int)).vals)) L (.lst (wl' ++ [V.ref v]))) F A.2.1 := by
          unfold LsAt
          rw [upd_ne nFL]
          exact hF14
        have o415 : Off o l d H (upd (upd (upd H13 u (.tup [V.int (A.1.puts.length : Int)])) v (.tup (Line.put i t x (some kk0) (A.1.now i t) (A.1.puts.length : Int)).vals)) L (.lst (wl' ++ [V.ref v]))) := o414.chg nL0
        have st415 : Still H (upd (upd (upd H13 u (.tup [V.int (A.1.puts.length : Int)])) v (.tup (Line.put i t x (some kk0) (A.1.now i t) (A.1.puts.length : Int)).vals)) L (.lst (wl' ++ [V.ref v]))) d := fun R z y => av15 R (st414 R z y)
        have avF15 := av15 _ avF14
        have avL15 := av15 _ avL14
        have fsz : (A.2.1.map V.int).length < sizeLine := by
          rw [List.length_map]
          have := fk.f
          exact small1000 (by omega)
        refine ⟨_, rfl, .inl ⟨rfl, _, SqL.of hF15⟩, _, rfl, F, _, _, rfl, rfl, hF15, fsz, ?_⟩
        obtain ⟨h16, av16⟩ := h15.chg (x := .lst (A.2.1.map V.int ++ [V.int (i : Int)])) nFl hF15 avF15
        refine ⟨_, _, _, _, _, rfl, o415.chg nF, fun R z y => av16 R (st415 R z y), h16, ?_, hL15.upd (Ne.symm nFL) hF15, av16 _ avF15, av16 _ avL15⟩
        unfold LsAt
        rw [upd_same, List.map_append]
        rfl
      · rintro σ H4 ⟨v6, v9, v10, v11, v12, rfl, o4, st4, h4, hF4, hL4, avF, avL⟩
        rw [show (S.n : Int).toNat = S.n by omega] at h4 hF4 hL4
        refine ⟨_, rfl, _, rfl, (by show 2 ≤ sizeLine; decide), fun r nr => ?_⟩
        have sr : Same H4 (upd H4 r (.tup [V.ref F, V.ref L])) := same_upd nr
        exact k _ r _ L (o4.same sr) (st4.trans (Still.same h4 sr) (o4.there h4)) (h4.same sr) (o4.gone h4 nr) upd_same ⟨F, rfl, hF4.same sr⟩ nL0 (hL4.same sr)

end PD

namespace PD
open PySem PySem.Spec PyProof.Rows L2

/-! Phrasedesk: the program's own state: Past -/
def spCount : Sp := fun vs H Q _ => ∃ i : Int, vs = [.int i] ∧ Q (.bl (decide (0 ≤ i))) H
theorem sc_is_count : FnScope ["value"] ["value"] (defScope s_is_count) := ⟨rfl, rfl, rfl, by decide +kernel, rfl, by decide +kernel, by decide +kernel⟩
theorem c_is_count {P : Program} {w : World} {K : PySem.W.Frag} {mg : Str → Option Value} {base : Heap} (T : Tx K mg) : C8.Cal P w K mg base 2 "is_count" (spCount) [] := by
  refine calD T.F_is_count T.g_is_count (fun _ _ _ _ _ _ us hl => match us, hl with | [_], _ => rfl) sc_is_count (fun vs H Q E h => ?_) (fun cdv A outer s H vs Q E hr h => ?_)
  · obtain ⟨i, rfl, _⟩ := h
    rfl
  · obtain ⟨i, rfl, q⟩ := h
    refine ⟨_, (pss_one (ps_ret (pe_and (C8.pe_c (c_is_number T) hr (by decide) rfl (pa_cons (pv 0) pa_nil)) (pe_one (pe_cmpR op_ge (pv 0) pe_int (nomark _)))))), ?_⟩
    refine ⟨_, rfl, _, _, true, false, rfl, .base (.int i), is_ty (by decide +kernel), is_ty (by decide +kernel), true, rfl, iteT ⟨_, rfl, i, 0, rfl, rfl, q⟩⟩
def spTongue : Sp := fun vs H Q _ => ∃ (a : Addr) (fr : List Int) (t : Int), vs = [.ref a, .int t] ∧ LsAt H a fr ∧ Q (.bl (decide (0 ≤ t) && decide (t ≤ (fr.length : Int)))) H
theorem sc_is_tongue : FnScope ["froms", "value"] ["froms", "value"] (defScope s_is_tongue) := ⟨rfl, rfl, rfl, by decide +kernel, rfl, by decide +kernel, by decide +kernel⟩
theorem c_is_tongue {P : Program} {w : World} {K : PySem.W.Frag} {mg : Str → Option Value} {base : Heap} (T : Tx K mg) : C8.Cal P w K mg base 3 "is_tongue" (spTongue) [] := by
  refine calD T.F_is_tongue T.g_is_tongue (fun _ _ _ _ _ _ us hl => match us, hl with | [_, _], _ => rfl) sc_is_tongue (fun vs H Q E h => ?_) (fun cdv A outer s H vs Q E hr h => ?_)
  · obtain ⟨a, fr, t, rfl, _⟩ := h
    rfl
  · obtain ⟨a, fr, t, rfl, ha, q⟩ := h
    refine ⟨_, (pss_one (ps_ret (pe_and (C8.pe_c (c_is_count T) hr (by decide) rfl (pa_cons (pv 1) pa_nil)) (pe_one (pe_cmpR op_le (pv 1) (pe_callB call_len_seq (by rfl) T.f_len (by decide +kernel) (pa_cons (pv 0) pa_nil)) (nomark _)))))), ?_⟩
    refine ⟨_, rfl, t, rfl, decide (0 ≤ t), rfl, ?_⟩
    by_cases h0 : 0 ≤ t
    · rw [decide_eq_true h0] at q ⊢
      refine iteT ⟨_, rfl, _, rfl, a, _, rfl, .inl (SqL.of ha), t, _, rfl, rfl, ?_⟩
      rw [List.length_map]
      exact q
    · rw [decide_eq_false h0] at q ⊢
      exact iteF q
def spFroms : Sp := fun vs H Q _ => ∃ (a : Addr) (fr : List Int), vs = [.ref a] ∧ LsAt H a fr ∧ FrOk fr ∧ ∀ H' : Hp, Same H H' → Q (.bl true) H'
theorem bl_of2 {b : Bool} (h : b = true) : V.bl b = V.bl true := by rw [h]
theorem all_true2 : ∀ n : Nat, (List.replicate n true).all id = true
  | 0 => rfl
  | n + 1 => by
    rw [List.replicate_succ]
    simp
theorem sc_is_froms : FnScope ["value", "place", "source"] ["value"] (defScope s_is_froms) := ⟨rfl, rfl, rfl, by decide +kernel, rfl, by decide +kernel, by decide +kernel⟩
theorem c_is_froms {P : Program} {w : World} {K : PySem.W.Frag} {mg : Str → Option Value} {base : Heap} (T : Tx K mg) : C8.Cal P w K mg base 3 "is_froms" (spFroms) [] := by
  refine calD T.F_is_froms T.g_is_froms (fun _ _ _ _ _ _ us hl => match us, hl with | [_], _ => rfl) sc_is_froms (fun vs H Q E h => ?_) (fun cdv A outer s H vs Q E hr h => ?_)
  · obtain ⟨a, fr, rfl, _⟩ := h
    rfl
  · obtain ⟨a, fr, rfl, ha, fo, q⟩ := h
    refine ⟨_, (pss_cons (ps_if (PW.pt (pw_or (pt_not (pt_val (pe_callB call_isi (by rfl) T.f_isinstance (by decide +kernel) (pa_cons (pv 0) (pa_cons (pe_bltn (v := .ty "list") (by rfl) T.f_list (by decide +kernel) rfl) pa_nil))))) (pw_or1 (pt_not (pt_chain op_le op_le (pe_glob (v := .int 2) rfl (T.g_FEWEST_TONGUES).choose_spec ⟨_, rfl⟩) (pe_op op_add (pe_callB call_len_seq (by rfl) T.f_len (by decide +kernel) (pa_cons (pv 0) pa_nil)) pe_int) (pe_glob (v := .int 8) rfl (T.g_MOST_TONGUES).choose_spec ⟨_, rfl⟩))))))
      (pss_one (ps_ret pe_bl))
      pss_nil)
    (pss_one (ps_ret (pe_callB (cr_all rfl) (by rfl) T.f_all (by decide +kernel) (pa_cons (pe_lc (own := [("place", 1), ("source", 2)]) (g := gTup K 2 (gCons (gName 1) (gCons (gName 2) (gNil)))) (tt := tYes) (by rfl) sc_is_froms.nd (pi_enum (by rfl) T.f_enumerate (pa_cons (pv 0) pa_nil)) (blkOk_by (own := [("place", 1), ("source", 2)]) (N := ["value", "place", "source"]) (sc := defScope s_is_froms) (by decide +kernel)) (fun _ _ _ _ _ => (pg_tup rfl (pgs_cons (pg_name (i := 1) sc_is_froms.nd rfl (Or.inl rfl) (Or.inr rfl)) (pgs_cons (pg_name (i := 2) sc_is_froms.nd rfl (Or.inl rfl) (Or.inr rfl)) pgs_nil)))) (fun _ _ _ _ _ => pts_nil) (fun _ _ _ _ _ => (pe_and (C8.pe_c (c_is_count T) hr (by decide) rfl (pa_cons (pv 2) pa_nil)) (pe_one (pe_cmpR op_le (pv 2) (pv 1) (nomark _)))))) pa_nil))))), ?_⟩
    have lo := fo.lo
    have hi := fo.hi
    refine ⟨_, rfl, _, _, _, _, true, rfl, .ty _, .base (.lst ha), is_ty (by decide +kernel), true, rfl, iteF ?_⟩
    refine ⟨_, rfl, a, _, rfl, .inl (SqL.of ha), _, _, rfl, rfl, _, _, rfl, rfl, true, bl_of2 (decide_eq_true ?_), iteT ⟨_, _, rfl, rfl, true, bl_of2 (decide_eq_true ?_), iteF ?_⟩⟩
    · rw [List.length_map]
      omega
    · rw [List.length_map]
      omega
    · refine ⟨_, rfl, a, _, rfl, SqL.of ha, fun D nD => ?_⟩
      refine lc_it (walk_enum (K := K) (a := a) (xs := fr.map V.int)) (fun i H1 => Same H H1 ∧ H1 D = some (.lst ((List.replicate i true).map V.bl))) ⟨same_upd nD, upd_same⟩ (fun i H1 _ p => SqL.of (ha.same p.1)) ?_ ?_
      · rintro i v H1 H2 hi2 ⟨s1, hD⟩ ⟨U, x, y, rfl, nU, rfl, e1, e2⟩
        cases (Option.some.inj e1)
        obtain ⟨z, rfl, ez⟩ := ivs_of e2
        obtain ⟨z0, z1⟩ := fo.each i z ez
        have sU : Same H1 (upd H1 U (.tup [V.int (i : Nat), V.int z])) := same_upd nU
        have nDU : D ≠ U := ne_of_none hD nU
        refine ⟨U, _, rfl, .inl (.inl upd_same), rfl, _, _, rfl, _, _, rfl, rfl, rfl, ?_⟩
        refine ⟨_, rfl, z, rfl, true, bl_of2 (decide_eq_true z0), iteT ⟨_, rfl, _, rfl, z, _, rfl, rfl, _, sU _ _ hD, ?_, Same.chg (s1.trans sU) nD, ?_⟩⟩
        · rw [List.length_map, List.length_replicate]
          rw [List.length_map] at hi2
          exact small1000 (by omega)
        · rw [upd_same, List.replicate_succ', List.map_append]
          show some (HO.lst (_ ++ [V.bl (decide (z ≤ (i : Int)))])) = _
          rw [decide_eq_true z1]
          rfl
      · rintro H1 ⟨s1, hD⟩
        exact ⟨D, _, rfl, SqL.of hD, qt (all_true2 _) (q _ s1)⟩
--# is_number_or_none
def spNumN (K : PySem.W.Frag) : Sp := fun vs H Q _ => ∃ s : Option Int, vs = [oV s] ∧ Q (.bl true) H
theorem sc_is_number_or_none : FnScope ["value"] ["value"] (defScope s_is_number_or_none) := ⟨rfl, rfl, rfl, by decide +kernel, rfl, by decide +kernel, by decide +kernel⟩
theorem c_is_number_or_none {P : Program} {w : World} {K : PySem.W.Frag} {mg : Str → Option Value} {base : Heap} (T : Tx K mg) : C8.Cal P w K mg base 2 "is_number_or_none" (spNumN K) [] := by
  refine calD T.F_is_number_or_none T.g_is_number_or_none (fun _ _ _ _ _ _ us hl => match us, hl with | [_], _ => rfl) sc_is_number_or_none (fun vs H Q E h => ?_) (fun cdv A outer s H vs Q E hr h => ?_)
  · obtain ⟨s, rfl, _⟩ := h
    rfl
  · obtain ⟨s, rfl, q⟩ := h
    cases s with
    | none =>
      refine ⟨_, (pss_one (ps_ret (pe_or (pe_cmpR op_isN (pv 0) pe_non (nomark _)) (pe_one (C8.pe_c (c_is_number T) hr (by decide) rfl (pa_cons (pv 0) pa_nil)))))), ?_⟩
      exact ⟨_, rfl, rfl, true, rfl, iteT q⟩
    | some i =>
      refine ⟨_, (pss_one (ps_ret (pe_or (pe_cmpR op_isN (pv 0) pe_non (nomark _)) (pe_one (C8.pe_c (c_is_number T) hr (by decide) rfl (pa_cons (pv 0) pa_nil)))))), ?_⟩
      exact ⟨_, rfl, rfl, false, rfl, iteF ⟨_, rfl, _, _, true, false, rfl, .base (.int i), is_ty (by decide +kernel), is_ty (by decide +kernel), q⟩⟩
--# Past.begin_phrase
def spBegin (C : Addr) : Sp := fun vs H Q _ => ∃ (a : Addr) (fr : List Int) (S : De) (A : PA), vs = [.ref a] ∧ PastAt H C a fr S A ∧ S.Ok fr ∧ FrOk fr ∧ S.n < 6 ∧
  ∀ (H' : Hp) (A' : PA), PastAt H' C a fr S.more A' → Only (footP a fr S.n A) H H' → (∀ x, footP a fr (S.n + 1) A' x → footP a fr S.n A x ∨ H x = none) → Q (.int (S.n : Int)) H'
abbrev DD (fr : List Int) (n i : Nat) : Nat → Nat → Prop := fun p t => Dom fr n p t ∨ (p = n ∧ t < i)
theorem sc_Past_begin_phrase : FnScope ["self", "phrase", "tongue"] ["self"] (defScope s_Past_begin_phrase) := ⟨rfl, rfl, rfl, by decide +kernel, rfl, by decide +kernel, by decide +kernel⟩
theorem c_Past_begin_phrase {P : Program} {w : World} {K : PySem.W.Frag} {mg : Str → Option Value} {base : Heap} (T : Tx K mg) : C8.Met P w K mg base 1 (He.ga K "Past") "begin_phrase" (spBegin (He.ga K "Past")) [] := by
  refine metD T.F_Past_begin_phrase T.k_Past T.m_Past_begin_phrase (fun _ _ _ _ _ _ us hl => match us, hl with | [_], _ => rfl) sc_Past_begin_phrase (fun vs H Q E h => ?_) (fun cdv A outer s H vs Q E hr h => ?_)
  · obtain ⟨a, fr, S, A, rfl, _⟩ := h
    rfl
  · obtain ⟨a, fr, S, A, rfl, hP, ok, fo, n6, q⟩ := h
    refine ⟨_, (pss_cons (ps_set (i := 1) sc_Past_begin_phrase.nd rfl (Or.inl rfl) (pe_fld (pv 0) (by rfl)))
    (pss_cons (ps_for PassesOwn.never rfl (pi_range1 (by rfl) T.f_range (pa_cons (pe_op op_add (pe_callB call_len_seq (by rfl) T.f_len (by decide +kernel) (pa_cons (pe_fld (pv 0) (by rfl)) pa_nil)) pe_int) pa_nil)) (pg_name (i := 2) sc_Past_begin_phrase.nd rfl (Or.inl rfl))
      (pss_cons (ps_dput (hu_of hr) (pe_fld (pv 0) (by rfl)) (pe_tup (pa_cons (pv 1) (pa_cons (pv 2) pa_nil))) pe_dnewK rfl)
      (pss_one (ps_dput (hu_of hr) (pe_fld (pv 0) (by rfl)) (pe_tup (pa_cons (pv 1) (pa_cons (pv 2) pa_nil))) (pe_lst pa_nil) rfl))))
    (pss_cons (ps_fldaug (pv 0) pe_int in_add)
    (pss_one (ps_ret (pv 1)))))), ?_⟩
    have hi7 := fo.hi
    refine ⟨_, rfl, a, _, _, _, _, rfl, hP.raw.obj, T.k_Past, T.n_Past_phrases, pf_phrases _ _, ?_⟩
    refine ⟨_, rfl, a, _, _, _, _, rfl, hP.raw.obj, T.k_Past, T.n_Past_froms, pf_froms _ _, A.f, _, rfl, .inl (SqL.of hP.raw.frm), _, _, rfl, rfl, _, rfl, by rw [List.length_map]; omega, by rw [List.length_map]; omega, ?_⟩
    refine for_range (lo := 0) (n := ((fr.map V.int).length + 1 : Int).toNat) (fun i σ H4 => ∃ (va : Option V) (A4 : PA), σ = [some (.ref a), some (.int S.n), va] ∧ Raw H4 (He.ga K "Past") a fr S.n (S.puts.map fun u => V.str u.x) (S.puts.map fun u => oV u.s) (eK S) S.lie (DD fr S.n i) (DD fr S.n i) A4 ∧ Only (footP a fr S.n A) H H4 ∧ (∀ x, Foot a (DD fr S.n i) (DD fr S.n i) A4 x → footP a fr S.n A x ∨ H x = none) ∧ A4.ekv.length ≤ 100 * S.n + i ∧ A4.pkv.length ≤ 100 * S.n + i)
      ⟨none, A, rfl, hP.raw.congr rfl rfl rfl (fun p t d => ⟨d.resolve_right (fun z => Nat.not_lt_zero _ z.2), rfl⟩) (fun p t d => ⟨d.resolve_right (fun z => Nat.not_lt_zero _ z.2), rfl⟩), only_same (Same.refl _), ?_, hP.el, hP.pl⟩ ?_ ?_
    · rintro x (z | z | z | z | z | z | ⟨p, t, d, z⟩ | ⟨p, t, d, z⟩)
      · exact .inl (.inl z)
      · exact .inl (.inr (.inl z))
      · exact .inl (.inr (.inr (.inl z)))
      · exact .inl (.inr (.inr (.inr (.inl z))))
      · exact .inl (.inr (.inr (.inr (.inr (.inl z)))))
      · exact .inl (.inr (.inr (.inr (.inr (.inr (.inl z))))))
      · exact .inl (.inr (.inr (.inr (.inr (.inr (.inr (.inl ⟨p, t, d.resolve_right (fun z => Nat.not_lt_zero _ z.2), z⟩)))))))
      · exact .inl (.inr (.inr (.inr (.inr (.inr (.inr (.inr ⟨p, t, d.resolve_right (fun z => Nat.not_lt_zero _ z.2), z⟩)))))))
    · rintro i σ H4 hi ⟨va, A4, rfl, r4, o4, f4, le4, lp4⟩
      rw [List.length_map] at hi
      rw [show (0 + (i : Int)) = (i : Int) from Int.zero_add _]
      have hin : i ≤ fr.length := by omega
      have nd : ¬ DD fr S.n i S.n i := fun z => z.elim (fun y => Nat.lt_irrefl _ y.1) (fun y => Nat.lt_irrefl _ y.2)
      intro e ne
      have r5 := r4.same (same_upd ne (o := .dK []))
      refine ⟨_, rfl, a, _, _, _, _, rfl, r5.obj, T.k_Past, T.n_Past_ever, pf_ever _ _, _, rfl, _, rfl, (by show 2 ≤ sizeLine; decide), fun b nb => ?_⟩
      have s6 : Same H4 (upd (upd H4 e (.dK [])) b (.tup [V.int (S.n : Int), V.int (i : Int)])) := (same_upd ne).trans (same_upd nb)
      have he6 : (upd (upd H4 e (.dK [])) b (.tup [V.int (S.n : Int), V.int (i : Int)])) e = some (.dK []) := same_upd nb _ _ upd_same
      have hb6 : (upd (upd H4 e (.dK [])) b (.tup [V.int (S.n : Int), V.int (i : Int)])) b = some (.tup ((ty S.n i).map kV)) := upd_same
      generalize upd (upd H4 e (.dK [])) b (.tup [V.int (S.n : Int), V.int (i : Int)]) = H6 at s6 he6 hb6 ⊢
      have r7 := r4.addE nd s6 ne he6
      have len4 := length_putK A4.ekv (ty S.n i) (.ref e)
      have len5 := length_putK A4.pkv (ty S.n i)
      refine ⟨A4.ev, _, rfl, DPut.t (r4.same s6).ev hb6 (small1000 (by omega)), Nat.zero_le _, fun e2 ne2 => ?_⟩
      have o7 : Only (footP a fr S.n A) H (upd H6 A4.ev (.dT (putK A4.ekv (ty S.n i) (.ref e)))) := by
        rcases f4 A4.ev (.inr (.inr (.inr (.inr (.inl rfl))))) with z | z
        · exact (o4.same s6).set z
        · exact (o4.same s6).chg z
      generalize upd H6 A4.ev (.dT (putK A4.ekv (ty S.n i) (.ref e))) = H7 at r7 o7 ne2 ⊢
      have r8 := r7.same (same_upd ne2 (o := .lst []))
      refine ⟨_, rfl, a, _, _, _, _, rfl, r8.obj, T.k_Past, T.n_Past_piles, pf_piles _ _, _, rfl, _, rfl, (by show 2 ≤ sizeLine; decide), fun b2 nb2 => ?_⟩
      have s9 : Same H7 (upd (upd H7 e2 (.lst [])) b2 (.tup [V.int (S.n : Int), V.int (i : Int)])) := (same_upd ne2).trans (same_upd nb2)
      have he9 : (upd (upd H7 e2 (.lst [])) b2 (.tup [V.int (S.n : Int), V.int (i : Int)])) e2 = some (.lst []) := same_upd nb2 _ _ upd_same
      have hb9 : (upd (upd H7 e2 (.lst [])) b2 (.tup [V.int (S.n : Int), V.int (i : Int)])) b2 = some (.tup ((ty S.n i).map kV)) := upd_same
      generalize upd (upd H7 e2 (.lst [])) b2 (.tup [V.int (S.n : Int), V.int (i : Int)]) = H9 at s9 he9 hb9 ⊢
      have r10 := r7.addP nd s9 ne2 he9
      refine ⟨A4.pi, _, rfl, DPut.t (r7.same s9).pi hb9 (small1000 (by show A4.pkv.length ≤ 1000; omega)), some (.int i), _, rfl, r10.congr rfl rfl rfl (fun p t d => ?_) (fun p t d => ?_), ?_, ?_, ?_, ?_⟩
      · have bare := ok.bare i
        by_cases c : p = S.n ∧ t = i
        · refine ⟨.inr c, ?_⟩
          rw [c.1, c.2, setAt_same]
          unfold eK
          rw [bare.2]
          rfl
        · refine ⟨.inl (d.imp id fun y => ⟨y.1, ?_⟩), by rw [setAt_ne c]⟩
          have : t ≠ i := fun z => c ⟨y.1, z⟩
          omega
      · have bare := ok.bare i
        by_cases c : p = S.n ∧ t = i
        · refine ⟨.inr c, ?_⟩
          rw [c.1, c.2, setAt_same, bare.1]
        · refine ⟨.inl (d.imp id fun y => ⟨y.1, ?_⟩), by rw [setAt_ne c]⟩
          have : t ≠ i := fun z => c ⟨y.1, z⟩
          omega
      · rcases f4 A4.pi (.inr (.inr (.inr (.inr (.inr (.inl rfl)))))) with z | z
        · exact (o7.same s9).set z
        · exact (o7.same s9).chg z
      · have fe : H e = none := o4.free ne
        have fe2 : H e2 = none := o7.free ne2
        have dn : ∀ p t, DD fr S.n (i + 1) p t → ¬ (p = S.n ∧ t = i) → DD fr S.n i p t := fun p t d c => d.imp id fun y => ⟨y.1, by
          have : t ≠ i := fun z => c ⟨y.1, z⟩
          omega⟩
        rintro x (z | z | z | z | z | z | ⟨p, t, d, z⟩ | ⟨p, t, d, z⟩)
        · exact f4 x (.inl z)
        · exact f4 x (.inr (.inl z))
        · exact f4 x (.inr (.inr (.inl z)))
        · exact f4 x (.inr (.inr (.inr (.inl z))))
        · exact f4 x (.inr (.inr (.inr (.inr (.inl z)))))
        · exact f4 x (.inr (.inr (.inr (.inr (.inr (.inl z))))))
        · have z' : x = setAt A4.eA S.n i e p t := z
          by_cases c : p = S.n ∧ t = i
          · rw [c.1, c.2, setAt_same] at z'
            exact .inr (by rw [z']; exact fe)
          · rw [setAt_ne c] at z'
            exact f4 x (.inr (.inr (.inr (.inr (.inr (.inr (.inl ⟨p, t, dn p t d c, z'⟩)))))))
        · have z' : x = setAt A4.pA S.n i e2 p t := z
          by_cases c : p = S.n ∧ t = i
          · rw [c.1, c.2, setAt_same] at z'
            exact .inr (by rw [z']; exact fe2)
          · rw [setAt_ne c] at z'
            exact f4 x (.inr (.inr (.inr (.inr (.inr (.inr (.inr ⟨p, t, dn p t d c, z'⟩)))))))
      · show (putK A4.ekv (ty S.n i) (.ref e)).length ≤ _
        omega
      · show (putK A4.pkv (ty S.n i) (.ref e2)).length ≤ _
        have := len5 (.ref e2)
        omega
    · rintro σ H4 ⟨va, A4, rfl, r4, o4, f4, le4, lp4⟩
      rw [show ((fr.map V.int).length + 1 : Int).toNat = fr.length + 1 by rw [List.length_map]; omega] at r4 f4 le4 lp4
      refine ⟨_, rfl, a, _, _, _, _, rfl, r4.obj, T.k_Past, T.n_Past_phrases, pf_phrases _ _, _, _, rfl, rfl, _, _, r4.obj, (by show 6 < 1000; decide), ?_⟩
      rw [pf_more]
      have r5 := r4.setN (S.n + 1)
      have dd : ∀ p t, Dom fr (S.n + 1) p t → DD fr S.n (fr.length + 1) p t := by
        rintro p t ⟨h1, h2⟩
        by_cases c : p = S.n
        · exact .inr ⟨c, by omega⟩
        · exact .inl ⟨by omega, h2⟩
      refine ⟨_, rfl, q _ A4 ⟨r5.congr rfl rfl rfl (fun p t d => ⟨dd p t d, rfl⟩) (fun p t d => ⟨dd p t d, rfl⟩), hP.few, hP.lens, ?_, ?_⟩ ?_ ?_⟩
      · show A4.ekv.length ≤ 100 * (S.n + 1)
        omega
      · show A4.pkv.length ≤ 100 * (S.n + 1)
        omega
      · exact o4.set (.inl rfl)
      · rintro x (z | z | z | z | z | z | ⟨p, t, d, z⟩ | ⟨p, t, d, z⟩)
        · exact f4 x (.inl z)
        · exact f4 x (.inr (.inl z))
        · exact f4 x (.inr (.inr (.inl z)))
        · exact f4 x (.inr (.inr (.inr (.inl z))))
        · exact f4 x (.inr (.inr (.inr (.inr (.inl z)))))
        · exact f4 x (.inr (.inr (.inr (.inr (.inr (.inl z))))))
        · exact f4 x (.inr (.inr (.inr (.inr (.inr (.inr (.inl ⟨p, t, dd p t d, z⟩)))))))
        · exact f4 x (.inr (.inr (.inr (.inr (.inr (.inr (.inr ⟨p, t, dd p t d, z⟩)))))))
--# Past.lay_down
def spLay (C : Addr) : Sp := fun vs H Q _ => ∃ (a : Addr) (fr : List Int) (S : De) (A : PA) (p t : Nat) (x : Str) (s : Option Int), vs = [.ref a, .int p, .int t, .str x, oV s] ∧ PastAt H C a fr S A ∧ p < S.n ∧ t ≤ fr.length ∧ S.puts.length < 5000 ∧
  ∀ (H' : Hp), PastAt H' C a fr (S.lay p t x s) A → Only (footP a fr S.n A) H H' → Q (.int (S.puts.length : Int)) H'
theorem sc_Past_lay_down : FnScope ["self", "phrase", "tongue", "text", "seen", "number"] ["self", "phrase", "tongue", "text", "seen"] (defScope s_Past_lay_down) := ⟨rfl, rfl, rfl, by decide +kernel, rfl, by decide +kernel, by decide +kernel⟩
theorem c_Past_lay_down {P : Program} {w : World} {K : PySem.W.Frag} {mg : Str → Option Value} {base : Heap} (T : Tx K mg) : C8.Met P w K mg base 1 (He.ga K "Past") "lay_down" (spLay (He.ga K "Past")) [] := by
  refine metD T.F_Past_lay_down T.k_Past T.m_Past_lay_down (fun _ _ _ _ _ _ us hl => match us, hl with | [_, _, _, _, _], _ => rfl) sc_Past_lay_down (fun vs H Q E h => ?_) (fun cdv A outer s H vs Q E hr h => ?_)
  · obtain ⟨a, fr, S, A, p, t, x, s, rfl, _⟩ := h
    rfl
  · obtain ⟨a, fr, S, A, p, t, x, s, rfl, hP, hp, ht, fw, q⟩ := h
    refine ⟨_, (pss_cons (ps_set (i := 5) sc_Past_lay_down.nd rfl (Or.inl rfl) (pe_callB call_len_seq (by rfl) T.f_len (by decide +kernel) (pa_cons (pe_fld (pv 0) (by rfl)) pa_nil)))
    (pss_cons (ps_expr (pe_bm PySem.F.plainAttrs_list PySem.F.slot_list_append PySem.F.type_list_append mt_append (pe_fld (pv 0) (by rfl)) (pa_cons (pv 3) pa_nil)))
    (pss_cons (ps_expr (pe_bm PySem.F.plainAttrs_list PySem.F.slot_list_append PySem.F.type_list_append mt_append (pe_fld (pv 0) (by rfl)) (pa_cons (pv 4) pa_nil)))
    (pss_cons (ps_dput (hu_of hr) (pe_dget (hu_of hr) (pe_fld (pv 0) (by rfl)) (pe_tup (pa_cons (pv 1) (pa_cons (pv 2) pa_nil))) (fun _ _ => rfl)) (pv 5) pe_bl rfl)
    (pss_cons (ps_expr (pe_bm PySem.F.plainAttrs_list PySem.F.slot_list_append PySem.F.type_list_append mt_append (pe_dget (hu_of hr) (pe_fld (pv 0) (by rfl)) (pe_tup (pa_cons (pv 1) (pa_cons (pv 2) pa_nil))) (fun _ _ => rfl)) (pa_cons (pv 5) pa_nil)))
    (pss_one (ps_ret (pv 5)))))))), ?_⟩
    have d : Dom fr S.n p t := ⟨hp, ht⟩
    have r := hP.raw
    refine ⟨_, rfl, a, _, _, _, _, rfl, r.obj, T.k_Past, T.n_Past_texts, pf_texts _ _, A.tx, _, rfl, .inl (SqL.of r.tx), ?_⟩
    rw [List.length_map]
    refine ⟨_, rfl, a, _, _, _, _, rfl, r.obj, T.k_Past, T.n_Past_texts, pf_texts _ _, .inl ⟨rfl, _, SqL.of r.tx⟩, _, rfl, A.tx, _, _, rfl, rfl, r.tx, by rw [List.length_map]; exact small5000 (by omega), ?_⟩
    have r1 := r.setTx ((S.puts.map fun u => V.str u.x) ++ [V.str x])
    have o1 : Only (footP a fr S.n A) H (upd H A.tx (.lst ((S.puts.map fun u => V.str u.x) ++ [V.str x]))) := (only_same (Same.refl _)).set (.inr (.inr (.inl rfl)))
    refine ⟨_, rfl, a, _, _, _, _, rfl, r1.obj, T.k_Past, T.n_Past_origins, pf_origins _ _, .inl ⟨rfl, _, SqL.of r1.og⟩, _, rfl, A.og, _, _, rfl, rfl, r1.og, by rw [List.length_map]; exact small5000 (by omega), ?_⟩
    have r2 := r1.setOg ((S.puts.map fun u => oV u.s) ++ [oV s])
    have o2 := o1.set (y := A.og) (o := .lst ((S.puts.map fun u => oV u.s) ++ [oV s])) (.inr (.inr (.inr (.inl rfl))))
    have lay := fun H3 H5 s3 s5 => @PastAt.lay H _ a fr S A H H H3 H H5 p t x s hP fw hp ht s3 s5
    generalize upd (upd H A.tx (.lst ((S.puts.map fun u => V.str u.x) ++ [V.str x]))) A.og (.lst ((S.puts.map fun u => oV u.s) ++ [oV s])) = H2 at r2 o2 lay ⊢
    refine ⟨_, rfl, a, _, _, _, _, rfl, r2.obj, T.k_Past, T.n_Past_ever, pf_ever _ _, _, rfl, _, rfl, (by show 2 ≤ sizeLine; decide), fun b nb => ?_⟩
    have s3 : Same H2 (upd H2 b (.tup [V.int (p : Int), V.int (t : Int)])) := same_upd nb
    have hb : (upd H2 b (.tup [V.int (p : Int), V.int (t : Int)])) b = some (.tup ((ty p t).map kV)) := upd_same
    generalize upd H2 b (.tup [V.int (p : Int), V.int (t : Int)]) = H3 at s3 hb ⊢
    have r3 := r2.same s3
    obtain ⟨e1, e2⟩ := r3.evs p t d
    have elen : (eK S p t).length < sizeLine := by
      unfold eK
      rw [List.length_map]
      have := evG_len (p := p) (t := t) (l := S.puts) (k := 0)
      exact small5000 (by unfold De.ever; omega)
    refine ⟨A.ev, _, rfl, e1 ▸ DGet.t r3.ev hb, _, rfl, A.eA p t, _, rfl, DPut.k (k := Sum.inl (S.puts.length : Int)) e2 elen, ?_⟩
    have r4 := r3.setEv d (putK (eK S p t) (Sum.inl (S.puts.length : Int)) (V.bl true))
    have o4 := (o2.same s3).set (y := A.eA p t) (o := .dK (putK (eK S p t) (Sum.inl (S.puts.length : Int)) (V.bl true))) (.inr (.inr (.inr (.inr (.inr (.inr (.inl ⟨p, t, d, rfl⟩)))))))
    have lay := fun H5 s5 => lay H3 H5 s3 s5
    generalize upd H3 (A.eA p t) (.dK (putK (eK S p t) (Sum.inl (S.puts.length : Int)) (V.bl true))) = H4 at r4 o4 lay ⊢
    refine ⟨_, rfl, a, _, _, _, _, rfl, r4.obj, T.k_Past, T.n_Past_piles, pf_piles _ _, _, rfl, _, rfl, (by show 2 ≤ sizeLine; decide), fun c nc => ?_⟩
    have s5 : Same H4 (upd H4 c (.tup [V.int (p : Int), V.int (t : Int)])) := same_upd nc
    have hc : (upd H4 c (.tup [V.int (p : Int), V.int (t : Int)])) c = some (.tup ((ty p t).map kV)) := upd_same
    generalize upd H4 c (.tup [V.int (p : Int), V.int (t : Int)]) = H5 at s5 hc ⊢
    have r5 := r4.same s5
    obtain ⟨g1, g2⟩ := r5.pis p t d
    have ln := hP.lens p t
    refine ⟨A.pi, V.ref (A.pA p t), rfl, g1 ▸ DGet.t r5.pi hc, .inl ⟨rfl, _, SqL.of g2⟩, _, rfl, A.pA p t, _, _, rfl, rfl, g2, by rw [List.length_map]; exact small5000 (by omega), ?_⟩
    exact ⟨_, rfl, q _ (lay H5 s5) ((o4.same s5).set (.inr (.inr (.inr (.inr (.inr (.inr (.inr ⟨p, t, d, rfl⟩))))))))⟩
--# Past.take_off
def spTake (C : Addr) : Sp := fun vs H Q _ => ∃ (a : Addr) (fr : List Int) (S : De) (A : PA) (p t : Nat) (k : Int), vs = [.ref a, .int p, .int t] ∧ PastAt H C a fr S A ∧ p < S.n ∧ t ≤ fr.length ∧ S.now p t = some k ∧
  ∀ (H' : Hp), PastAt H' C a fr (S.off p t) A → Only (footP a fr S.n A) H H' → Q (.int k) H'
theorem sc_Past_take_off : FnScope ["self", "phrase", "tongue"] ["self", "phrase", "tongue"] (defScope s_Past_take_off) := ⟨rfl, rfl, rfl, by decide +kernel, rfl, by decide +kernel, by decide +kernel⟩
theorem c_Past_take_off {P : Program} {w : World} {K : PySem.W.Frag} {mg : Str → Option Value} {base : Heap} (T : Tx K mg) : C8.Met P w K mg base 1 (He.ga K "Past") "take_off" (spTake (He.ga K "Past")) [] := by
  refine metD T.F_Past_take_off T.k_Past T.m_Past_take_off (fun _ _ _ _ _ _ us hl => match us, hl with | [_, _, _], _ => rfl) sc_Past_take_off (fun vs H Q E h => ?_) (fun cdv A outer s H vs Q E hr h => ?_)
  · obtain ⟨a, fr, S, A, p, t, k, rfl, _⟩ := h
    rfl
  · obtain ⟨a, fr, S, A, p, t, k, rfl, hP, hp, ht, ek, q⟩ := h
    refine ⟨_, (pss_one (ps_ret (pe_bm0 PySem.F.plainAttrs_list PySem.F.slot_list_pop PySem.F.type_list_pop mt_pop (pe_dget (hu_of hr) (pe_fld (pv 0) (by rfl)) (pe_tup (pa_cons (pv 1) (pa_cons (pv 2) pa_nil))) (fun _ _ => rfl))))), ?_⟩
    have d : Dom fr S.n p t := ⟨hp, ht⟩
    refine ⟨_, rfl, a, _, _, _, _, rfl, hP.raw.obj, T.k_Past, T.n_Past_piles, pf_piles _ _, _, rfl, _, rfl, (by show 2 ≤ sizeLine; decide), fun c nc => ?_⟩
    have s1 : Same H (upd H c (.tup [V.int (p : Int), V.int (t : Int)])) := same_upd nc
    have hc : (upd H c (.tup [V.int (p : Int), V.int (t : Int)])) c = some (.tup ((ty p t).map kV)) := upd_same
    generalize upd H c (.tup [V.int (p : Int), V.int (t : Int)]) = H1 at s1 hc ⊢
    have h1 := hP.same s1
    obtain ⟨g1, g2⟩ := h1.raw.pis p t d
    refine ⟨A.pi, V.ref (A.pA p t), rfl, g1 ▸ DGet.t h1.raw.pi hc, .inl ⟨rfl, _, SqL.of g2⟩, A.pA p t, _, V.int k, rfl, rfl, g2, ?_, q _ (h1.off hp ht) ((only_same s1).set (.inr (.inr (.inr (.inr (.inr (.inr (.inr ⟨p, t, d, rfl⟩))))))))⟩
    obtain ⟨ys, ey⟩ := List.getLast?_eq_some_iff.mp (show (S.lie p t).getLast? = some k from ek)
    rw [ey, List.map_append, List.length_append]
    simp
--# Past.has_phrase
def spHas (C : Addr) : Sp := fun vs H Q _ => ∃ (a : Addr) (fr : List Int) (S : De) (A : PA) (v : Int), vs = [.ref a, .int v] ∧ PastAt H C a fr S A ∧ Q (.bl (decide (0 ≤ v) && decide (v < (S.n : Int)))) H
theorem sc_Past_has_phrase : FnScope ["self", "value"] ["self", "value"] (defScope s_Past_has_phrase) := ⟨rfl, rfl, rfl, by decide +kernel, rfl, by decide +kernel, by decide +kernel⟩
theorem c_Past_has_phrase {P : Program} {w : World} {K : PySem.W.Frag} {mg : Str → Option Value} {base : Heap} (T : Tx K mg) : C8.Met P w K mg base 3 (He.ga K "Past") "has_phrase" (spHas (He.ga K "Past")) [] := by
  refine metD T.F_Past_has_phrase T.k_Past T.m_Past_has_phrase (fun _ _ _ _ _ _ us hl => match us, hl with | [_, _], _ => rfl) sc_Past_has_phrase (fun vs H Q E h => ?_) (fun cdv A outer s H vs Q E hr h => ?_)
  · obtain ⟨a, fr, S, A, v, rfl, _⟩ := h
    rfl
  · obtain ⟨a, fr, S, A, v, rfl, hP, q⟩ := h
    refine ⟨_, (pss_one (ps_ret (pe_and (C8.pe_c (c_is_count T) hr (by decide) rfl (pa_cons (pv 1) pa_nil)) (pe_one (pe_cmpR op_lt (pv 1) (pe_fld (pv 0) (by rfl)) (nomark _)))))), ?_⟩
    refine ⟨_, rfl, v, rfl, decide (0 ≤ v), rfl, ?_⟩
    by_cases c : 0 ≤ v
    · rw [decide_eq_true c] at q ⊢
      exact iteT ⟨_, rfl, _, rfl, a, _, _, _, _, rfl, hP.raw.obj, T.k_Past, T.n_Past_phrases, pf_phrases _ _, v, _, rfl, rfl, q⟩
    · rw [decide_eq_false c] at q ⊢
      exact iteF q
--# Past.standing
def spStand (C : Addr) : Sp := fun vs H Q _ => ∃ (a : Addr) (fr : List Int) (S : De) (A : PA) (p t : Nat), vs = [.ref a, .int p, .int t] ∧ PastAt H C a fr S A ∧ p < S.n ∧ t ≤ fr.length ∧ ∀ (H' : Hp), Same H H' → Q (oV (S.now p t)) H'
theorem sc_Past_standing : FnScope ["self", "phrase", "tongue", "pile"] ["self", "phrase", "tongue"] (defScope s_Past_standing) := ⟨rfl, rfl, rfl, by decide +kernel, rfl, by decide +kernel, by decide +kernel⟩
theorem c_Past_standing {P : Program} {w : World} {K : PySem.W.Frag} {mg : Str → Option Value} {base : Heap} (T : Tx K mg) : C8.Met P w K mg base 1 (He.ga K "Past") "standing" (spStand (He.ga K "Past")) [] := by
  refine metD T.F_Past_standing T.k_Past T.m_Past_standing (fun _ _ _ _ _ _ us hl => match us, hl with | [_, _, _], _ => rfl) sc_Past_standing (fun vs H Q E h => ?_) (fun cdv A outer s H vs Q E hr h => ?_)
  · obtain ⟨a, fr, S, A, p, t, rfl, _⟩ := h
    rfl
  · obtain ⟨a, fr, S, A, p, t, rfl, hP, hp, ht, q⟩ := h
    refine ⟨_, (pss_cons (ps_set (i := 3) sc_Past_standing.nd rfl (Or.inl rfl) (pe_dget (hu_of hr) (pe_fld (pv 0) (by rfl)) (pe_tup (pa_cons (pv 1) (pa_cons (pv 2) pa_nil))) (fun _ _ => rfl)))
    (pss_one (ps_ret (pe_ifExp (pt_truth (pv 3) (by intro _; rfl)) (pe_ix ix_list (pv 3) (pe_un un_neg pe_int) (fun _ _ => rfl)) pe_non)))), ?_⟩
    have d : Dom fr S.n p t := ⟨hp, ht⟩
    refine ⟨_, rfl, a, _, _, _, _, rfl, hP.raw.obj, T.k_Past, T.n_Past_piles, pf_piles _ _, _, rfl, _, rfl, (by show 2 ≤ sizeLine; decide), fun c nc => ?_⟩
    have s1 : Same H (upd H c (.tup [V.int (p : Int), V.int (t : Int)])) := same_upd nc
    have hc : (upd H c (.tup [V.int (p : Int), V.int (t : Int)])) c = some (.tup ((ty p t).map kV)) := upd_same
    generalize upd H c (.tup [V.int (p : Int), V.int (t : Int)]) = H1 at s1 hc ⊢
    have h1 := hP.same s1
    obtain ⟨g1, g2⟩ := h1.raw.pis p t d
    refine ⟨A.pi, V.ref (A.pA p t), rfl, g1 ▸ DGet.t h1.raw.pi hc, ?_⟩
    cases el : (S.lie p t).getLast? with
    | none =>
      have e0 : S.lie p t = [] := List.getLast?_eq_none_iff.mp el
      rw [e0] at g2
      have q1 := q H1 s1
      rw [show S.now p t = none from el] at q1
      exact ⟨_, rfl, false, .inl ⟨_, SqL.of g2, rfl⟩, iteF q1⟩
    | some k =>
      have q1 := q H1 s1
      rw [show S.now p t = some k from el] at q1
      refine ⟨_, rfl, true, ?_, iteT ⟨_, rfl, _, rfl, A.pA p t, _, _, _, rfl, rfl, SqL.of g2, last_at el, q1⟩⟩
      refine .inl ⟨_, SqL.of g2, ?_⟩
      cases e0 : S.lie p t with
      | nil =>
        rw [e0] at el
        cases el
      | cons y ys => rfl
--# Past.text_standing
def De.tV (S : De) (p t : Nat) : V := match S.now p t with
  | some k => .str (S.pt k).x
  | none => .non
def spTxS (C : Addr) : Sp := fun vs H Q _ => ∃ (a : Addr) (fr : List Int) (S : De) (A : PA) (p t : Nat), vs = [.ref a, .int p, .int t] ∧ PastAt H C a fr S A ∧ S.Num ∧ p < S.n ∧ t ≤ fr.length ∧ ∀ (H' : Hp), Same H H' → Q (S.tV p t) H'
theorem sc_Past_text_standing : FnScope ["self", "phrase", "tongue", "number"] ["self", "phrase", "tongue"] (defScope s_Past_text_standing) := ⟨rfl, rfl, rfl, by decide +kernel, rfl, by decide +kernel, by decide +kernel⟩
theorem c_Past_text_standing {P : Program} {w : World} {K : PySem.W.Frag} {mg : Str → Option Value} {base : Heap} (T : Tx K mg) : C8.Met P w K mg base 2 (He.ga K "Past") "text_standing" (spTxS (He.ga K "Past")) [] := by
  refine metD T.F_Past_text_standing T.k_Past T.m_Past_text_standing (fun _ _ _ _ _ _ us hl => match us, hl with | [_, _, _], _ => rfl) sc_Past_text_standing (fun vs H Q E h => ?_) (fun cdv A outer s H vs Q E hr h => ?_)
  · obtain ⟨a, fr, S, A, p, t, rfl, _⟩ := h
    rfl
  · obtain ⟨a, fr, S, A, p, t, rfl, hP, hN, hp, ht, q⟩ := h
    refine ⟨_, (pss_cons (ps_set (i := 3) sc_Past_text_standing.nd rfl (Or.inl rfl) (C8.pe_mt (c_Past_standing T) hr (by decide) (pv 0) (pa_cons (pv 1) (pa_cons (pv 2) pa_nil))))
    (pss_one (ps_ret (pe_ifExp (pt_cmpR op_isN (pv 3) pe_non (nomark _)) pe_non (pe_ix ix_list (pe_fld (pv 0) (by rfl)) (pv 3) (fun _ _ => rfl)))))), ?_⟩
    refine ⟨_, rfl, a, _, _, rfl, hP.raw.obj, rfl, _, rfl, _, rfl, a, fr, S, A, p, t, rfl, hP, hp, ht, fun H1 s1 => ?_⟩
    have q1 := q H1 s1
    unfold De.tV at q1
    have h1 := hP.same s1
    cases en : S.now p t with
    | none =>
      rw [en] at q1
      exact ⟨_, rfl, rfl, true, rfl, iteT q1⟩
    | some k =>
      rw [en] at q1
      obtain ⟨k0, u, eu, _, _⟩ := hN.now en
      have q1 : Q (V.str (S.pt k).x) H1 := q1
      rw [show S.pt k = u from De.pt_at eu] at q1
      exact ⟨_, rfl, rfl, false, rfl, iteF ⟨_, rfl, a, _, _, _, _, rfl, h1.raw.obj, T.k_Past, T.n_Past_texts, pf_texts _ _, _, rfl, A.tx, _, _, _, rfl, rfl, SqL.of h1.raw.tx, at_of (j := k.toNat) (by omega) (lookup_at eu), q1⟩⟩
--# Past.cells
def spCells (C : Addr) : Sp := fun vs H Q _ => ∃ (a : Addr) (fr : List Int) (S : De) (A : PA) (p : Nat), vs = [.ref a, .int p] ∧ PastAt H C a fr S A ∧ S.Num ∧ FrOk fr ∧ p < S.n ∧ ∀ (H' : Hp) (r : Addr), Same H H' → H r = none → RowAt H' r (S.row (fr.length + 1) p) → Q (.ref r) H'
theorem sc_Past_cells : FnScope ["self", "phrase", "numbers", "tongue", "number"] ["self", "phrase"] (defScope s_Past_cells) := ⟨rfl, rfl, rfl, by decide +kernel, rfl, by decide +kernel, by decide +kernel⟩
theorem c_Past_cells {P : Program} {w : World} {K : PySem.W.Frag} {mg : Str → Option Value} {base : Heap} (T : Tx K mg) : C8.Met P w K mg base 2 (He.ga K "Past") "cells" (spCells (He.ga K "Past")) [] := by
  refine metD T.F_Past_cells T.k_Past T.m_Past_cells (fun _ _ _ _ _ _ us hl => match us, hl with | [_, _], _ => rfl) sc_Past_cells (fun vs H Q E h => ?_) (fun cdv A outer s H vs Q E hr h => ?_)
  · obtain ⟨a, fr, S, A, p, rfl, _⟩ := h
    rfl
  · obtain ⟨a, fr, S, A, p, rfl, hP, hN, fo, hp, q⟩ := h
    refine ⟨_, (pss_cons (ps_setLc (i := 2) (own := [("tongue", 3)]) (g := gName 3) (tt := tYes) (by rfl) sc_Past_cells.nd rfl rfl (sw_true rfl rfl rfl (by decide +kernel)) (pi_range1 (by rfl) T.f_range (pa_cons (pe_op op_add (pe_callB call_len_seq (by rfl) T.f_len (by decide +kernel) (pa_cons (pe_fld (pv 0) (by rfl)) pa_nil)) pe_int) pa_nil)) (blkOk_by (own := [("tongue", 3)]) (N := ["self", "phrase", "numbers", "tongue", "number"]) (sc := defScope s_Past_cells) (by decide +kernel)) (fun _ _ _ _ _ => (pg_name (i := 3) sc_Past_cells.nd rfl (Or.inl rfl))) (fun _ _ _ _ _ => pts_nil) (fun _ _ _ _ _ => (C8.pe_mt (c_Past_standing T) hr (by decide) (pv 0) (pa_cons (pv 1) (pa_cons (pv 3) pa_nil)))))
    (pss_one (ps_ret (pe_lc (own := [("number", 4)]) (g := gName 4) (tt := tYes) (by rfl) sc_Past_cells.nd (pi_list (pv 2)) (blkOk_by (own := [("number", 4)]) (N := ["self", "phrase", "numbers", "tongue", "number"]) (sc := defScope s_Past_cells) (by decide +kernel)) (fun _ _ _ _ _ => (pg_name (i := 4) sc_Past_cells.nd rfl (Or.inl rfl))) (fun _ _ _ _ _ => pts_nil) (fun _ _ _ _ _ => (pe_ifExp (pt_cmpR op_isN (pv 4) pe_non (nomark _)) pe_non (pe_tup (pa_cons (pv 4) (pa_cons (pe_ix (show IxR _ (rIxL K) from ix_list) (pe_fldK (K := K) (by rfl) (pv 0) (by rfl)) (pv 4) (fun _ _ => rfl)) pa_nil))))))))), ?_⟩
    have hi7 := fo.hi
    refine ⟨_, rfl, a, _, _, _, _, rfl, hP.raw.obj, T.k_Past, T.n_Past_froms, pf_froms _ _, A.f, _, rfl, .inl (SqL.of hP.raw.frm), _, _, rfl, rfl, _, rfl, by rw [List.length_map]; omega, by rw [List.length_map]; omega, fun D nD => ?_⟩
    refine lc_range (lo := 0) (n := ((fr.map V.int).length + 1 : Int).toNat) (fun i H1 => Same H H1 ∧ H1 D = some (.lst ((List.range i).map fun t => oV (S.now p t)))) ⟨same_upd nD, upd_same⟩ ?_ ?_
    · rintro i H1 hi ⟨s1, hD⟩
      rw [List.length_map] at hi
      rw [show (0 + (i : Int)) = (i : Int) from Int.zero_add _]
      have h1 := hP.same s1
      refine ⟨rfl, _, rfl, a, _, _, rfl, h1.raw.obj, rfl, _, rfl, _, rfl, a, fr, S, A, p, i, rfl, h1, hp, by omega, fun H2 s2 => ⟨_, s2 _ _ hD, ?_, Same.chg (s1.trans s2) nD, ?_⟩⟩
      · rw [List.length_map, List.length_range]
        exact small1000 (by omega)
      · rw [upd_same, List.range_succ, List.map_append]
        rfl
    rintro H1 ⟨s1, hD⟩
    rw [show ((fr.map V.int).length + 1 : Int).toNat = fr.length + 1 by rw [List.length_map]; omega] at hD
    refine ⟨_, rfl, D, rfl, ⟨_, SqL.of hD⟩, fun R nR => ?_⟩
    refine lc_list (K := K) (a := D) (xs := (List.range (fr.length + 1)).map fun t => oV (S.now p t)) (fun i H2 => Same H1 H2 ∧ RowAt H2 R (S.row i p)) ⟨same_upd nR, ⟨[], upd_same, ⟨rfl, fun i c e => by simp [De.row] at e⟩⟩⟩ (fun i H2 _ z => SqL.of (z.1 _ _ hD)) ?_ ?_
    · rintro i v H2 hv ⟨s2, hR⟩
      have hi : i < fr.length + 1 := by
        have := (List.getElem?_eq_some_iff.mp hv).1
        rw [List.length_map, List.length_range] at this
        exact this
      rw [List.getElem?_map, List.getElem?_range hi] at hv
      have hv' : v = oV (S.now p i) := (Option.some.inj hv).symm
      subst hv'
      have s12 := s1.trans s2
      have h2 := hP.same s12
      obtain ⟨ws, hw, hcs⟩ := id hR
      have hlen : ws.length < sizeLine := by
        rw [hcs.len, De.row_len]
        exact small1000 (by omega)
      have step : ∀ (H6 : Hp) (v : V), Same H2 H6 → CellV H6 v (S.cell p i) → Same H1 (upd H6 R (.lst (ws ++ [v]))) ∧ RowAt (upd H6 R (.lst (ws ++ [v]))) R (S.row (i + 1) p) := by
        intro H6 v s6 hc
        refine ⟨Same.chg (s2.trans s6) nR, ?_⟩
        have z := RowAt.snoc (hR.same s6) (s6 _ _ hw) hc
        unfold De.row at z ⊢
        rw [List.range_succ, List.map_append]
        exact z
      refine ⟨rfl, _, rfl, rfl, decide (oV (S.now p i) = .non), rfl, ?_⟩
      cases en : S.now p i with
      | none =>
        obtain ⟨g1, g2⟩ := step H2 .non (Same.refl _) (by unfold De.cell; rw [en]; rfl)
        exact iteT ⟨_, hw, hlen, g1, g2⟩
      | some k =>
        obtain ⟨k0, u, eu, _, _⟩ := hN.now en
        refine iteF ⟨_, rfl, _, rfl, a, _, _, _, _, rfl, h2.raw.obj, T.k_Past, T.n_Past_origins, pf_origins _ _, _, rfl, A.og, _, _, _, rfl, rfl, SqL.of h2.raw.og, at_of (j := k.toNat) (by omega) (lookup_at eu), (by show 2 ≤ sizeLine; decide), fun c nc => ?_⟩
        obtain ⟨g1, g2⟩ := step _ (.ref c) (same_upd nc (o := .tup [.int k, oV u.s])) (by
          unfold De.cell
          rw [en]
          show CellV _ _ (some (k, (S.pt k).s))
          rw [De.pt_at eu]
          exact ⟨c, rfl, upd_same⟩)
        exact ⟨_, same_upd nc _ _ hw, hlen, g1, g2⟩
    rintro H2 ⟨s2, hR⟩
    rw [List.length_map, List.length_range] at hR
    exact q H2 R (s1.trans s2) (s1.free nR) hR
--# Past.was_seen
def spSeen (C : Addr) : Sp := fun vs H Q _ => ∃ (a : Addr) (fr : List Int) (S : De) (A : PA) (p t : Nat) (s : Option Int), vs = [.ref a, .int p, .int t, oV s] ∧ PastAt H C a fr S A ∧ FrOk fr ∧ p < S.n ∧ t ≤ fr.length ∧ ∀ (H' : Hp), Same H H' → Q (.bl (decide (s ∈ S.seens fr p t))) H'
theorem sc_Past_was_seen : FnScope ["self", "phrase", "tongue", "seen"] ["self", "phrase", "tongue", "seen"] (defScope s_Past_was_seen) := ⟨rfl, rfl, rfl, by decide +kernel, rfl, by decide +kernel, by decide +kernel⟩
theorem c_Past_was_seen {P : Program} {w : World} {K : PySem.W.Frag} {mg : Str → Option Value} {base : Heap} (T : Tx K mg) : C8.Met P w K mg base 2 (He.ga K "Past") "was_seen" (spSeen (He.ga K "Past")) [] := by
  refine metD T.F_Past_was_seen T.k_Past T.m_Past_was_seen (fun _ _ _ _ _ _ us hl => match us, hl with | [_, _, _, _], _ => rfl) sc_Past_was_seen (fun vs H Q E h => ?_) (fun cdv A outer s H vs Q E hr h => ?_)
  · obtain ⟨a, fr, S, A, p, t, s0, rfl, _⟩ := h
    rfl
  · obtain ⟨a, fr, S, A, p, t, s0, rfl, hP, fo, hp, ht, q⟩ := h
    refine ⟨_, (pss_cons (ps_if (pt_cmpR op_eq (pv 2) pe_int (nomark _))
      (pss_one (ps_ret (pe_cmpR op_isN (pv 3) pe_non (nomark _))))
      pss_nil)
    (pss_one (ps_ret (pe_and (C8.pe_c (c_is_number T) hr (by decide) rfl (pa_cons (pv 3) pa_nil)) (pe_one (pe_cmp (pc_din (hu_of hr) (pv 3) (pe_dget (hu_of hr) (pe_fld (pv 0) (by rfl)) (pe_tup (pa_cons (pv 1) (pa_cons (C8.pe_c (c_put_from T) hr (by decide) rfl (pa_cons (pe_fld (pv 0) (by rfl)) (pa_cons (pv 2) pa_nil))) pa_nil))) (fun _ _ => rfl))) rfl)))))), ?_⟩
    refine ⟨_, rfl, rfl, decide (t = 0), congrArg V.bl (dec_nat (y := 0)), ?_⟩
    by_cases c : t = 0
    · rw [decide_eq_true c]
      have q1 := q H (Same.refl _)
      unfold De.seens at q1
      rw [if_pos c] at q1
      refine iteT ⟨_, rfl, rfl, qt ?_ q1⟩
      cases s0 with
      | none => rfl
      | some k => rfl
    rw [decide_eq_false c]
    have q1 := fun H' s' => q H' s'
    unfold De.seens at q1
    rw [if_neg c] at q1
    cases s0 with
    | none =>
      refine iteF ⟨_, rfl, _, _, false, false, rfl, .base .non, is_ty (by decide +kernel), is_ty (by decide +kernel), false, rfl, iteF (qt ?_ (q1 H (Same.refl _)))⟩
      symm
      exact decide_eq_false (fun z => by simp at z)
    | some k =>
      obtain ⟨x, ex, x0, xl, xu⟩ := fo.at (t := t) (by omega) ht
      refine iteF ⟨_, rfl, _, _, true, false, rfl, .base (.int k), is_ty (by decide +kernel), is_ty (by decide +kernel), true, rfl, iteT ?_⟩
      refine ⟨_, rfl, _, rfl, a, _, _, _, _, rfl, hP.raw.obj, T.k_Past, T.n_Past_ever, pf_ever _ _, _, rfl, _, rfl, a, _, _, _, _, rfl, hP.raw.obj, T.k_Past, T.n_Past_froms, pf_froms _ _, _, rfl, A.f, fr, t, x, rfl, hP.raw.frm, by omega, ex, (by show 2 ≤ sizeLine; decide), fun b nb => ?_⟩
      subst xu
      have s1 : Same H (upd H b (.tup [V.int (p : Int), V.int (up fr t : Int)])) := same_upd nb
      have hb : (upd H b (.tup [V.int (p : Int), V.int (up fr t : Int)])) b = some (.tup ((ty p (up fr t)).map kV)) := upd_same
      generalize upd H b (.tup [V.int (p : Int), V.int (up fr t : Int)]) = H1 at s1 hb ⊢
      have h1 := hP.same s1
      have hu := up_lt fo (t := t) (by omega) ht
      obtain ⟨e1, e2⟩ := h1.raw.evs p (up fr t) ⟨hp, by omega⟩
      refine ⟨A.ev, V.ref (A.eA p (up fr t)), rfl, e1 ▸ DGet.t h1.raw.ev hb, A.eA p (up fr t), _, rfl, DGet.k (k := Sum.inl k) e2, qt ?_ (q1 H1 s1)⟩
      unfold eK
      rw [eK_has]
      refine decide_eq_decide.mpr ?_
      rw [List.mem_map, List.mem_map]
      exact ⟨fun ⟨e, z1, z2⟩ => ⟨e, z1, congrArg some z2⟩, fun ⟨e, z1, z2⟩ => ⟨e, z1, Option.some.inj z2⟩⟩
--# Past.is_over
def spOver (C : Addr) : Sp := fun vs H Q _ => ∃ (a : Addr) (fr : List Int) (S : De) (A : PA) (p t : Nat) (o : Option Int), vs = [.ref a, .int p, .int t, oV o] ∧ PastAt H C a fr S A ∧ p < S.n ∧ t ≤ fr.length ∧ ∀ (H' : Hp), Same H H' → Q (.bl (decide (o = S.now p t))) H'
theorem oV_dec {a b : Option Int} : decide (oV a = oV b) = decide (a = b) := by
  refine decide_eq_decide.mpr ⟨fun z => ?_, fun z => by rw [z]⟩
  cases a with
  | none =>
    cases b with
    | none => rfl
    | some y => cases z
  | some x =>
    cases b with
    | none => cases z
    | some y => rw [V.int.inj z]
theorem sc_Past_is_over : FnScope ["self", "phrase", "tongue", "over"] ["self", "phrase", "tongue", "over"] (defScope s_Past_is_over) := ⟨rfl, rfl, rfl, by decide +kernel, rfl, by decide +kernel, by decide +kernel⟩
theorem c_Past_is_over {P : Program} {w : World} {K : PySem.W.Frag} {mg : Str → Option Value} {base : Heap} (T : Tx K mg) : C8.Met P w K mg base 3 (He.ga K "Past") "is_over" (spOver (He.ga K "Past")) [] := by
  refine metD T.F_Past_is_over T.k_Past T.m_Past_is_over (fun _ _ _ _ _ _ us hl => match us, hl with | [_, _, _, _], _ => rfl) sc_Past_is_over (fun vs H Q E h => ?_) (fun cdv A outer s H vs Q E hr h => ?_)
  · obtain ⟨a, fr, S, A, p, t, o, rfl, _⟩ := h
    rfl
  · obtain ⟨a, fr, S, A, p, t, o, rfl, hP, hp, ht, q⟩ := h
    refine ⟨_, (pss_one (ps_ret (pe_and (C8.pe_c (c_is_number_or_none T) hr (by decide) rfl (pa_cons (pv 3) pa_nil)) (pe_one (pe_cmpR op_eq (pv 3) (C8.pe_mt (c_Past_standing T) hr (by decide) (pv 0) (pa_cons (pv 1) (pa_cons (pv 2) pa_nil))) (nomark _)))))), ?_⟩
    refine ⟨_, rfl, o, rfl, true, rfl, iteT ⟨_, rfl, _, rfl, a, _, _, rfl, hP.raw.obj, rfl, _, rfl, _, rfl, a, fr, S, A, p, t, rfl, hP, hp, ht, fun H1 s1 => ?_⟩⟩
    refine ⟨?_, qt oV_dec (q H1 s1)⟩
    cases o <;> cases S.now p t <;> rfl
--# Past.can_take_off
def spCan (C : Addr) : Sp := fun vs H Q _ => ∃ (a : Addr) (fr : List Int) (S : De) (A : PA) (p t : Nat), vs = [.ref a, .int p, .int t] ∧ PastAt H C a fr S A ∧ p < S.n ∧ t ≤ fr.length ∧ ∀ (H' : Hp), Same H H' → Q (.bl (decide ((if t = 0 then 1 else 0) < (S.lie p t).length))) H'
theorem sc_Past_can_take_off : FnScope ["self", "phrase", "tongue"] ["self", "phrase", "tongue"] (defScope s_Past_can_take_off) := ⟨rfl, rfl, rfl, by decide +kernel, rfl, by decide +kernel, by decide +kernel⟩
theorem c_Past_can_take_off {P : Program} {w : World} {K : PySem.W.Frag} {mg : Str → Option Value} {base : Heap} (T : Tx K mg) : C8.Met P w K mg base 1 (He.ga K "Past") "can_take_off" (spCan (He.ga K "Past")) [] := by
  refine metD T.F_Past_can_take_off T.k_Past T.m_Past_can_take_off (fun _ _ _ _ _ _ us hl => match us, hl with | [_, _, _], _ => rfl) sc_Past_can_take_off (fun vs H Q E h => ?_) (fun cdv A outer s H vs Q E hr h => ?_)
  · obtain ⟨a, fr, S, A, p, t, rfl, _⟩ := h
    rfl
  · obtain ⟨a, fr, S, A, p, t, rfl, hP, hp, ht, q⟩ := h
    refine ⟨_, (pss_one (ps_ret (pe_cmpR op_gt (pe_callB call_len_seq (by rfl) T.f_len (by decide +kernel) (pa_cons (pe_dget (hu_of hr) (pe_fld (pv 0) (by rfl)) (pe_tup (pa_cons (pv 1) (pa_cons (pv 2) pa_nil))) (fun _ _ => rfl)) pa_nil)) (pe_ifExp (pt_cmpR op_eq (pv 2) pe_int (nomark _)) pe_int pe_int) (nomark _)))), ?_⟩
    have d : Dom fr S.n p t := ⟨hp, ht⟩
    refine ⟨_, rfl, a, _, _, _, _, rfl, hP.raw.obj, T.k_Past, T.n_Past_piles, pf_piles _ _, _, rfl, _, rfl, (by show 2 ≤ sizeLine; decide), fun c nc => ?_⟩
    have s1 : Same H (upd H c (.tup [V.int (p : Int), V.int (t : Int)])) := same_upd nc
    have hc : (upd H c (.tup [V.int (p : Int), V.int (t : Int)])) c = some (.tup ((ty p t).map kV)) := upd_same
    generalize upd H c (.tup [V.int (p : Int), V.int (t : Int)]) = H1 at s1 hc ⊢
    have h1 := hP.same s1
    obtain ⟨g1, g2⟩ := h1.raw.pis p t d
    refine ⟨A.pi, V.ref (A.pA p t), rfl, g1 ▸ DGet.t h1.raw.pi hc, A.pA p t, _, rfl, .inl (SqL.of g2), _, rfl, rfl, decide (t = 0), congrArg V.bl (dec_nat (y := 0)), ?_⟩
    have q1 := q H1 s1
    rw [List.length_map]
    by_cases c0 : t = 0
    · rw [decide_eq_true c0]
      rw [if_pos c0] at q1
      refine iteT ⟨_, _, rfl, rfl, qt (decide_eq_decide.mpr (by omega)) q1⟩
    · rw [decide_eq_false c0]
      rw [if_neg c0] at q1
      refine iteF ⟨_, _, rfl, rfl, qt (decide_eq_decide.mpr (by omega)) q1⟩
--# Past.__init__
def spPastInit (C : Addr) : Sp := fun vs H Q _ => ∃ (y dy f : Addr) (fr : List Int), vs = [.ref y, .ref f] ∧ H y = some (.ins C dy []) ∧ LsAt H f fr ∧
  ∀ (H' : Hp) (A : PA), PastAt H' C y fr De.none A → (∀ x o, x ≠ y → H x = some o → H' x = some o) → (∀ x, footP y fr 0 A x → x = y ∨ H x = none) → Q .non H'
theorem sc_Past_init : FnScope ["self", "froms"] ["self", "froms"] (defScope s_Past_init) := ⟨rfl, rfl, rfl, by decide +kernel, rfl, by decide +kernel, by decide +kernel⟩
theorem c_Past_init {P : Program} {w : World} {K : PySem.W.Frag} {mg : Str → Option Value} {base : Heap} (T : Tx K mg) : C8.Mak P w K mg base 1 "Past" (He.ga K "Past") (spPastInit (He.ga K "Past")) [] := by
  refine makD T.F_Past_init T.i_Past T.g_Past (fun _ _ _ _ _ _ us hl => match us, hl with | [_, _], _ => rfl) sc_Past_init (fun vs H Q E h => ?_) (fun cdv A outer s H vs Q E hr h => ?_)
  · obtain ⟨y, dy, f, fr, rfl, _⟩ := h
    rfl
  · obtain ⟨y, dy, f, fr, rfl, hy, hf, q⟩ := h
    refine ⟨_, (pss_cons (ps_fld (pv 0) (pe_callTy call_list_of (by rfl) T.f_list (by decide +kernel) (pa_cons (pv 1) pa_nil)) rfl)
    (pss_cons (ps_fld (pv 0) pe_int rfl)
    (pss_cons (ps_fld (pv 0) (pe_lst pa_nil) rfl)
    (pss_cons (ps_fld (pv 0) (pe_lst pa_nil) rfl)
    (pss_cons (ps_fld (pv 0) pe_dnewT rfl)
    (pss_one (ps_fld (pv 0) pe_dnewT rfl))))))), ?_⟩
    have kpn : ∀ {H H' : Hp} {p : Addr} {o u : HO}, (∀ x o, x ≠ y → H x = some o → H' x = some o) → H' p = none → ∀ x o', x ≠ y → H x = some o' → (upd (upd H' p o) y u) x = some o' := by
      intro H H' p o u k np x o' nx e
      have e' := k x o' nx e
      rw [upd_ne nx, upd_ne (ne_of_none e' np)]
      exact e'
    have k0 : ∀ x o, x ≠ y → H x = some o → H x = some o := fun _ _ _ e => e
    refine ⟨_, rfl, f, _, rfl, .inl (SqL.of hf), fun f1 nf1 => ⟨_, rfl, y, _, dy, _, rfl, same_upd nf1 _ _ hy, T.k_Past, T.n_Past_froms, (by show 0 < 1000; decide), ?_⟩⟩
    have k1 := kpn (o := .lst (fr.map V.int)) (u := .ins (He.ga K "Past") dy (putF "froms" (.ref f1) [])) k0 nf1
    have yf1 : f1 ≠ y := Ne.symm (ne_of_none hy nf1)
    have a1 : (upd (upd H f1 (.lst (fr.map V.int))) y (.ins (He.ga K "Past") dy (putF "froms" (.ref f1) []))) f1 = some (.lst (fr.map V.int)) := by rw [upd_ne yf1, upd_same]
    have y1 : (upd (upd H f1 (.lst (fr.map V.int))) y (.ins (He.ga K "Past") dy (putF "froms" (.ref f1) []))) y = some (.ins (He.ga K "Past") dy [("froms", .ref f1)]) := upd_same
    generalize upd (upd H f1 (.lst (fr.map V.int))) y (.ins (He.ga K "Past") dy (putF "froms" (.ref f1) [])) = H1 at k1 a1 y1 ⊢
    refine ⟨_, rfl, y, _, dy, _, rfl, y1, T.k_Past, T.n_Past_phrases, (by show 1 < 1000; decide), ?_⟩
    have k2 : ∀ x o, x ≠ y → H1 x = some o → (upd H1 y (.ins (He.ga K "Past") dy (putF "phrases" (.int 0) [("froms", .ref f1)]))) x = some o := fun x o nx e => by rw [upd_ne nx]; exact e
    have y2 : (upd H1 y (.ins (He.ga K "Past") dy (putF "phrases" (.int 0) [("froms", .ref f1)]))) y = some (.ins (He.ga K "Past") dy [("froms", .ref f1), ("phrases", .int 0)]) := upd_same
    generalize upd H1 y (.ins (He.ga K "Past") dy (putF "phrases" (.int 0) [("froms", .ref f1)])) = H2 at k2 y2 ⊢
    have a2 := k2 _ _ yf1 a1
    refine ⟨Nat.zero_le _, fun tx ntx => ⟨_, rfl, y, _, dy, _, rfl, same_upd ntx _ _ y2, T.k_Past, T.n_Past_texts, (by show 2 < 1000; decide), ?_⟩⟩
    have ytx : tx ≠ y := Ne.symm (ne_of_none y2 ntx)
    have f1tx : f1 ≠ tx := ne_of_none a2 ntx
    have k3 := kpn (H := H2) (o := .lst []) (u := .ins (He.ga K "Past") dy (putF "texts" (.ref tx) [("froms", .ref f1), ("phrases", .int 0)])) (fun _ _ _ e => e) ntx
    have t3 : (upd (upd H2 tx (.lst [])) y (.ins (He.ga K "Past") dy (putF "texts" (.ref tx) [("froms", .ref f1), ("phrases", .int 0)]))) tx = some (.lst []) := by rw [upd_ne ytx, upd_same]
    have y3 : (upd (upd H2 tx (.lst [])) y (.ins (He.ga K "Past") dy (putF "texts" (.ref tx) [("froms", .ref f1), ("phrases", .int 0)]))) y = some (.ins (He.ga K "Past") dy [("froms", .ref f1), ("phrases", .int 0), ("texts", .ref tx)]) := upd_same
    generalize upd (upd H2 tx (.lst [])) y (.ins (He.ga K "Past") dy (putF "texts" (.ref tx) [("froms", .ref f1), ("phrases", .int 0)])) = H3 at k3 t3 y3 ⊢
    have a3 := k3 _ _ yf1 a2
    refine ⟨Nat.zero_le _, fun og nog => ⟨_, rfl, y, _, dy, _, rfl, same_upd nog _ _ y3, T.k_Past, T.n_Past_origins, (by show 3 < 1000; decide), ?_⟩⟩
    have yog : og ≠ y := Ne.symm (ne_of_none y3 nog)
    have f1og : f1 ≠ og := ne_of_none a3 nog
    have txog : tx ≠ og := ne_of_none t3 nog
    have k4 := kpn (H := H3) (o := .lst []) (u := .ins (He.ga K "Past") dy (putF "origins" (.ref og) [("froms", .ref f1), ("phrases", .int 0), ("texts", .ref tx)])) (fun _ _ _ e => e) nog
    have o4 : (upd (upd H3 og (.lst [])) y (.ins (He.ga K "Past") dy (putF "origins" (.ref og) [("froms", .ref f1), ("phrases", .int 0), ("texts", .ref tx)]))) og = some (.lst []) := by rw [upd_ne yog, upd_same]
    have y4 : (upd (upd H3 og (.lst [])) y (.ins (He.ga K "Past") dy (putF "origins" (.ref og) [("froms", .ref f1), ("phrases", .int 0), ("texts", .ref tx)]))) y = some (.ins (He.ga K "Past") dy [("froms", .ref f1), ("phrases", .int 0), ("texts", .ref tx), ("origins", .ref og)]) := upd_same
    generalize upd (upd H3 og (.lst [])) y (.ins (He.ga K "Past") dy (putF "origins" (.ref og) [("froms", .ref f1), ("phrases", .int 0), ("texts", .ref tx)])) = H4 at k4 o4 y4 ⊢
    have a4 := k4 _ _ yf1 a3
    have t4 := k4 _ _ ytx t3
    refine fun ev nev => ⟨_, rfl, y, _, dy, _, rfl, same_upd nev _ _ y4, T.k_Past, T.n_Past_ever, (by show 4 < 1000; decide), ?_⟩
    have yev : ev ≠ y := Ne.symm (ne_of_none y4 nev)
    have k5 := kpn (H := H4) (o := .dT []) (u := .ins (He.ga K "Past") dy (putF "ever" (.ref ev) [("froms", .ref f1), ("phrases", .int 0), ("texts", .ref tx), ("origins", .ref og)])) (fun _ _ _ e => e) nev
    have e5 : (upd (upd H4 ev (.dT [])) y (.ins (He.ga K "Past") dy (putF "ever" (.ref ev) [("froms", .ref f1), ("phrases", .int 0), ("texts", .ref tx), ("origins", .ref og)]))) ev = some (.dT []) := by rw [upd_ne yev, upd_same]
    have y5 : (upd (upd H4 ev (.dT [])) y (.ins (He.ga K "Past") dy (putF "ever" (.ref ev) [("froms", .ref f1), ("phrases", .int 0), ("texts", .ref tx), ("origins", .ref og)]))) y = some (.ins (He.ga K "Past") dy [("froms", .ref f1), ("phrases", .int 0), ("texts", .ref tx), ("origins", .ref og), ("ever", .ref ev)]) := upd_same
    generalize upd (upd H4 ev (.dT [])) y (.ins (He.ga K "Past") dy (putF "ever" (.ref ev) [("froms", .ref f1), ("phrases", .int 0), ("texts", .ref tx), ("origins", .ref og)])) = H5 at k5 e5 y5 ⊢
    refine fun pi npi => ⟨_, rfl, y, _, dy, _, rfl, same_upd npi _ _ y5, T.k_Past, T.n_Past_piles, (by show 5 < 1000; decide), ?_⟩
    have ypi : pi ≠ y := Ne.symm (ne_of_none y5 npi)
    have evpi : ev ≠ pi := ne_of_none e5 npi
    have k6 := kpn (H := H5) (o := .dT []) (u := .ins (He.ga K "Past") dy (putF "piles" (.ref pi) [("froms", .ref f1), ("phrases", .int 0), ("texts", .ref tx), ("origins", .ref og), ("ever", .ref ev)])) (fun _ _ _ e => e) npi
    have p6 : (upd (upd H5 pi (.dT [])) y (.ins (He.ga K "Past") dy (putF "piles" (.ref pi) [("froms", .ref f1), ("phrases", .int 0), ("texts", .ref tx), ("origins", .ref og), ("ever", .ref ev)]))) pi = some (.dT []) := by rw [upd_ne ypi, upd_same]
    have y6 : (upd (upd H5 pi (.dT [])) y (.ins (He.ga K "Past") dy (putF "piles" (.ref pi) [("froms", .ref f1), ("phrases", .int 0), ("texts", .ref tx), ("origins", .ref og), ("ever", .ref ev)]))) y = some (.ins (He.ga K "Past") dy (pastF 0 ⟨dy, f1, tx, og, ev, pi, [], [], fun _ _ => y, fun _ _ => y⟩)) := upd_same
    generalize upd (upd H5 pi (.dT [])) y (.ins (He.ga K "Past") dy (putF "piles" (.ref pi) [("froms", .ref f1), ("phrases", .int 0), ("texts", .ref tx), ("origins", .ref og), ("ever", .ref ev)])) = H6 at k6 p6 y6 ⊢
    have k06 : ∀ x o, x ≠ y → H x = some o → H6 x = some o := fun x o nx e => k6 _ _ nx (k5 _ _ nx (k4 _ _ nx (k3 _ _ nx (k2 _ _ nx (k1 _ _ nx e)))))
    have fr0 : ∀ p t, ¬ Dom fr 0 p t := fun p t z => Nat.not_lt_zero _ z.1
    have new : ∀ {z : Addr} {H' : Hp}, (∀ x o, x ≠ y → H x = some o → H' x = some o) → H' z = none → H z = none ∨ z = y := by
      intro z H' k nz
      by_cases c : z = y
      · exact .inr c
      · refine .inl ?_
        cases e : H z with
        | none => rfl
        | some o =>
          rw [k z o c e] at nz
          cases nz
    have k02 := fun x o nx e => k2 x o nx (k1 x o nx e)
    have k03 := fun x o nx e => k3 x o nx (k02 x o nx e)
    have k04 := fun x o nx e => k4 x o nx (k03 x o nx e)
    have k05 := fun x o nx e => k5 x o nx (k04 x o nx e)
    refine q H6 ⟨dy, f1, tx, og, ev, pi, [], [], fun _ _ => y, fun _ _ => y⟩ ⟨⟨y6, k6 _ _ yf1 (k5 _ _ yf1 a4), k6 _ _ ytx (k5 _ _ ytx t4), k6 _ _ yog (k5 _ _ yog o4), k6 _ _ yev e5, p6, fun p t d => absurd d (fr0 p t), fun p t d => absurd d (fr0 p t), txog, f1tx, f1og, evpi, fun p t d => absurd d (fr0 p t), fun p t _ _ d => absurd d (fr0 p t), fun p t _ _ d => absurd d (fr0 p t)⟩, Nat.zero_le _, fun _ _ => Nat.le_refl _, Nat.zero_le _, Nat.zero_le _⟩ k06 ?_
    rintro x (z | z | z | z | z | z | ⟨p, t, d, z⟩ | ⟨p, t, d, z⟩)
    · exact .inl z
    · exact .inr (by rw [z]; exact nf1)
    · exact (new k02 ntx).symm.imp (fun e => z.trans e) (fun e => by rw [z]; exact e)
    · exact (new k03 nog).symm.imp (fun e => z.trans e) (fun e => by rw [z]; exact e)
    · exact (new k04 nev).symm.imp (fun e => z.trans e) (fun e => by rw [z]; exact e)
    · exact (new k05 npi).symm.imp (fun e => z.trans e) (fun e => by rw [z]; exact e)
    · exact absurd d (fr0 p t)
    · exact absurd d (fr0 p t)

end PD

namespace PD
open PySem PySem.Spec PyProof.Rows L2

/-! Phrasedesk: a Desk's smaller methods -/
--# is_text
def txB (x : Str) : Bool := decide (1 ≤ x.length) && (decide (x.length ≤ 6) && x.cps.toList.all fun c => decide (97 ≤ c ∧ c ≤ 122))
theorem txB_ok {x : Str} (h : TxOk x) : txB x = true := by
  unfold txB
  rw [decide_eq_true h.lo, decide_eq_true h.hi, List.all_eq_true.mpr fun c hc => decide_eq_true (h.each c hc)]
  rfl
theorem txB_of {x : Str} (h : txB x = true) : TxOk x := by
  unfold txB at h
  rw [Bool.and_eq_true, Bool.and_eq_true] at h
  exact ⟨of_decide_eq_true h.1, of_decide_eq_true h.2.1, fun c hc => of_decide_eq_true (List.all_eq_true.mp h.2.2 c hc)⟩
theorem az_mem (c : Nat) : decide (c ∈ (Str.ofString "abcdefghijklmnopqrstuvwxyz").cps.toList) = decide (97 ≤ c ∧ c ≤ 122) := by
  refine decide_eq_decide.mpr ⟨fun h => ?_, fun h => ?_⟩
  · have : ∀ c ∈ (Str.ofString "abcdefghijklmnopqrstuvwxyz").cps.toList, 97 ≤ c ∧ c ≤ 122 := by decide +kernel
    exact this c h
  · have e := az_at (c - 97) (by omega)
    rw [show 97 + (c - 97) = c by omega] at e
    exact List.mem_of_getElem? e
def spIsText : Sp := fun vs H Q _ => ∃ x : Str, vs = [.str x] ∧ x.length ≤ 5000 ∧ ∀ H' : Hp, Same H H' → Q (.bl (txB x)) H'
theorem sc_is_text : FnScope ["value", "sign"] ["value"] (defScope s_is_text) := ⟨rfl, rfl, rfl, by decide +kernel, rfl, by decide +kernel, by decide +kernel⟩
theorem c_is_text {P : Program} {w : World} {K : PySem.W.Frag} {mg : Str → Option Value} {base : Heap} (T : Tx K mg) : C8.Cal P w K mg base 1 "is_text" (spIsText) [] := by
  refine calD T.F_is_text T.g_is_text (fun _ _ _ _ _ _ us hl => match us, hl with | [_], _ => rfl) sc_is_text (fun vs H Q E h => ?_) (fun cdv A outer s H vs Q E hr h => ?_)
  · obtain ⟨x, rfl, _⟩ := h
    rfl
  · obtain ⟨x, rfl, xl, q⟩ := h
    refine ⟨_, (pss_one (ps_ret (pe_and (pe_callB call_isi (by rfl) T.f_isinstance (by decide +kernel) (pa_cons (pv 0) (pa_cons (pe_bltn (v := .ty "str") (by rfl) T.f_str (by decide +kernel) rfl) pa_nil))) (pe_and (pe_chain op_le op_le pe_int (pe_callB call_len_str (by rfl) T.f_len (by decide +kernel) (pa_cons (pv 0) pa_nil)) (pe_glob (v := .int 6) rfl (T.g_MOST_LETTERS).choose_spec ⟨_, rfl⟩)) (pe_one (pe_callB (cr_all rfl) (by rfl) T.f_all (by decide +kernel) (pa_cons (pe_lc (own := [("sign", 1)]) (g := gName 1) (tt := tYes) (by rfl) sc_is_text.nd (pi_str (pv 0)) (blkOk_by (own := [("sign", 1)]) (N := ["value", "sign"]) (sc := defScope s_is_text) (by decide +kernel)) (fun _ _ _ _ _ => (pg_name (i := 1) sc_is_text.nd rfl (Or.inl rfl))) (fun _ _ _ _ _ => pts_nil) (fun _ _ _ _ _ => (pe_cmpR op_in_str (pv 1) (pe_glob (v := .str "abcdefghijklmnopqrstuvwxyz") rfl (T.g_LETTERS).choose_spec ⟨_, rfl⟩) (by rfl)))) pa_nil))))))), ?_⟩
    refine ⟨_, rfl, _, _, _, _, true, rfl, .ty _, .base (.str x), is_ty (by decide +kernel), true, rfl, iteT ?_⟩
    refine ⟨_, rfl, x, rfl, Nat.le_of_lt (small5000 xl), _, _, rfl, rfl, decide ((1 : Int) ≤ (x.length : Int)), rfl, ?_⟩
    have q0 := q H (Same.refl _)
    unfold txB at q q0
    by_cases c1 : (1 : Int) ≤ (x.length : Int)
    case neg =>
      rw [decide_eq_false c1]
      rw [decide_eq_false (show ¬ 1 ≤ x.length by omega), Bool.false_and] at q0
      exact iteF ⟨false, rfl, iteF q0⟩
    rw [decide_eq_true c1]
    rw [decide_eq_true (show 1 ≤ x.length by omega), Bool.true_and] at q q0
    refine iteT ⟨_, _, rfl, rfl, decide ((x.length : Int) ≤ 6), rfl, ?_⟩
    by_cases c2 : (x.length : Int) ≤ 6
    case neg =>
      rw [decide_eq_false c2]
      rw [decide_eq_false (show ¬ x.length ≤ 6 by omega), Bool.false_and] at q0
      exact iteF q0
    rw [decide_eq_true c2]
    rw [decide_eq_true (show x.length ≤ 6 by omega), Bool.true_and] at q
    refine iteT ⟨_, rfl, x, rfl, fun D nD => ?_⟩
    refine lc_it (walk_str (z := x)) (fun i H1 => Same H H1 ∧ H1 D = some (.lst (((x.cps.toList.take i).map fun c => decide (97 ≤ c ∧ c ≤ 122)).map V.bl))) ⟨same_upd nD, upd_same⟩ (fun _ _ _ _ => trivial) ?_ ?_
    · rintro i v H1 H2 hi ⟨s1, hD⟩ ⟨rfl, c, ec, rfl⟩
      refine ⟨rfl, _, rfl, _, _, rfl, rfl, _, hD, ?_, Same.chg s1 nD, ?_⟩
      · rw [List.length_map, List.length_map, List.length_take]
        have hi' : i < x.length := hi
        exact small5000 (by omega)
      · have ec' : x.cps.toList[i]? = some c := by rw [Array.getElem?_toList]; exact ec
        rw [upd_same, List.take_add_one, ec', Option.toList_some, List.map_append, List.map_append, StrLaws.found_one, az_mem]
        rfl
    · rintro H1 ⟨s1, hD⟩
      rw [show x.cps.size = x.cps.toList.length from Array.length_toList.symm, List.take_length] at hD
      refine ⟨D, _, rfl, SqL.of hD, qt ?_ (q _ s1)⟩
      rw [List.all_map]
      rfl
--# Desk.check_phrase
abbrev DeK (K : PySem.W.Frag) (H : Hp) (d : Addr) (fr : List Int) (S : De) (ls : List Line) (F : Addr → Prop) : Prop := Desk H (He.ga K "Desk") (He.ga K "Past") d fr S ls F
theorem df_past (p L : Addr) : (deskF p L).lookup ("past" : Str) = some (.ref p) := rfl
theorem df_lines (p L : Addr) : (deskF p L).lookup ("lines" : Str) = some (.ref L) := rfl
def spCkP (K : PySem.W.Frag) : Sp := fun vs H Q _ => ∃ (d : Addr) (fr : List Int) (S : De) (ls : List Line) (F : Addr → Prop) (p : Nat), vs = [.ref d, .int p] ∧ DeK K H d fr S ls F ∧ p < S.n ∧ Q .non H
theorem sc_Desk_check_phrase : FnScope ["self", "phrase"] ["self", "phrase"] (defScope s_Desk_check_phrase) := ⟨rfl, rfl, rfl, by decide +kernel, rfl, by decide +kernel, by decide +kernel⟩
theorem c_Desk_check_phrase {P : Program} {w : World} {K : PySem.W.Frag} {mg : Str → Option Value} {base : Heap} (T : Tx K mg) : C8.Met P w K mg base 4 (He.ga K "Desk") "check_phrase" (spCkP K) [] := by
  refine metD T.F_Desk_check_phrase T.k_Desk T.m_Desk_check_phrase (fun _ _ _ _ _ _ us hl => match us, hl with | [_, _], _ => rfl) sc_Desk_check_phrase (fun vs H Q E h => ?_) (fun cdv A outer s H vs Q E hr h => ?_)
  · obtain ⟨d, fr, S, ls, F, p, rfl, _⟩ := h
    rfl
  · obtain ⟨d, fr, S, ls, F, p, rfl, hD, hp, q⟩ := h
    refine ⟨_, (pss_one (ps_if (pt_not (pt_val (C8.pe_mt (c_Past_has_phrase T) hr (by decide) (pe_fld (pv 0) (by rfl)) (pa_cons (pv 1) pa_nil))))
      (pss_one ps_never)
      pss_nil)), ?_⟩
    obtain ⟨B, hB, hF, _⟩ := hD
    refine ⟨_, rfl, d, _, _, _, _, rfl, hB.obj, T.k_Desk, T.n_Desk_past, df_past _ _, B.p, _, _, rfl, hB.past.raw.obj, rfl, _, rfl, B.p, fr, S, B.A, (p : Int), rfl, hB.past, true, ?_, iteF q⟩
    rw [decide_eq_true (by omega : (0 : Int) ≤ (p : Int)), decide_eq_true (by omega : (p : Int) < (S.n : Int))]
    rfl
--# Desk.check_place
def spCkPl (K : PySem.W.Frag) : Sp := fun vs H Q _ => ∃ (d : Addr) (fr : List Int) (S : De) (ls : List Line) (F : Addr → Prop) (p t : Nat), vs = [.ref d, .int p, .int t] ∧ DeK K H d fr S ls F ∧ p < S.n ∧ t ≤ fr.length ∧ Q .non H
theorem sc_Desk_check_place : FnScope ["self", "phrase", "tongue"] ["self", "phrase", "tongue"] (defScope s_Desk_check_place) := ⟨rfl, rfl, rfl, by decide +kernel, rfl, by decide +kernel, by decide +kernel⟩
theorem c_Desk_check_place {P : Program} {w : World} {K : PySem.W.Frag} {mg : Str → Option Value} {base : Heap} (T : Tx K mg) : C8.Met P w K mg base 5 (He.ga K "Desk") "check_place" (spCkPl K) [] := by
  refine metD T.F_Desk_check_place T.k_Desk T.m_Desk_check_place (fun _ _ _ _ _ _ us hl => match us, hl with | [_, _, _], _ => rfl) sc_Desk_check_place (fun vs H Q E h => ?_) (fun cdv A outer s H vs Q E hr h => ?_)
  · obtain ⟨d, fr, S, ls, F, p, t, rfl, _⟩ := h
    rfl
  · obtain ⟨d, fr, S, ls, F, p, t, rfl, hD, hp, ht, q⟩ := h
    refine ⟨_, (pss_cons (ps_expr (C8.pe_mt (c_Desk_check_phrase T) hr (by decide) (pv 0) (pa_cons (pv 1) pa_nil)))
    (pss_one (ps_if (pt_not (pt_val (C8.pe_c (c_is_tongue T) hr (by decide) rfl (pa_cons (pe_fld (pe_fld (pv 0) (by rfl)) (by rfl)) (pa_cons (pv 2) pa_nil)))))
      (pss_one ps_never)
      pss_nil))), ?_⟩
    obtain ⟨B, hB, hF, h3⟩ := id hD
    refine ⟨_, rfl, d, _, _, rfl, hB.obj, rfl, _, rfl, d, fr, S, ls, F, p, rfl, hD, hp, ?_⟩
    refine ⟨_, rfl, d, _, _, _, _, rfl, hB.obj, T.k_Desk, T.n_Desk_past, df_past _ _, B.p, _, _, _, _, rfl, hB.past.raw.obj, T.k_Past, T.n_Past_froms, pf_froms _ _, _, rfl, B.A.f, fr, (t : Int), rfl, hB.past.raw.frm, true, ?_, iteF q⟩
    rw [decide_eq_true (by omega : (0 : Int) ≤ (t : Int)), decide_eq_true (by omega : (t : Int) ≤ (fr.length : Int))]
    rfl
--# Desk.check_other_tongue
def spCkO (K : PySem.W.Frag) : Sp := fun vs H Q _ => ∃ (d : Addr) (fr : List Int) (S : De) (ls : List Line) (F : Addr → Prop) (t : Nat), vs = [.ref d, .int t] ∧ DeK K H d fr S ls F ∧ 0 < t ∧ t ≤ fr.length ∧ Q .non H
theorem sc_Desk_check_other_tongue : FnScope ["self", "tongue"] ["self", "tongue"] (defScope s_Desk_check_other_tongue) := ⟨rfl, rfl, rfl, by decide +kernel, rfl, by decide +kernel, by decide +kernel⟩
theorem c_Desk_check_other_tongue {P : Program} {w : World} {K : PySem.W.Frag} {mg : Str → Option Value} {base : Heap} (T : Tx K mg) : C8.Met P w K mg base 4 (He.ga K "Desk") "check_other_tongue" (spCkO K) [] := by
  refine metD T.F_Desk_check_other_tongue T.k_Desk T.m_Desk_check_other_tongue (fun _ _ _ _ _ _ us hl => match us, hl with | [_, _], _ => rfl) sc_Desk_check_other_tongue (fun vs H Q E h => ?_) (fun cdv A outer s H vs Q E hr h => ?_)
  · obtain ⟨d, fr, S, ls, F, t, rfl, _⟩ := h
    rfl
  · obtain ⟨d, fr, S, ls, F, t, rfl, hD, t0, ht, q⟩ := h
    refine ⟨_, (pss_one (ps_if (PW.pt (pw_or (pt_not (pt_val (C8.pe_c (c_is_tongue T) hr (by decide) rfl (pa_cons (pe_fld (pe_fld (pv 0) (by rfl)) (by rfl)) (pa_cons (pv 1) pa_nil))))) (pw_or1 (pt_cmpR op_eq (pv 1) pe_int (nomark _)))))
      (pss_one ps_never)
      pss_nil)), ?_⟩
    obtain ⟨B, hB, hF, h3⟩ := id hD
    refine ⟨_, rfl, d, _, _, _, _, rfl, hB.obj, T.k_Desk, T.n_Desk_past, df_past _ _, B.p, _, _, _, _, rfl, hB.past.raw.obj, T.k_Past, T.n_Past_froms, pf_froms _ _, _, rfl, B.A.f, fr, (t : Int), rfl, hB.past.raw.frm, true, ?_, iteF ⟨_, rfl, rfl, false, ?_, iteF q⟩⟩
    · rw [decide_eq_true (by omega : (0 : Int) ≤ (t : Int)), decide_eq_true (by omega : (t : Int) ≤ (fr.length : Int))]
      rfl
    · rw [show decide (V.int (t : Int) = V.int 0) = decide (t = 0) from dec_nat (y := 0), decide_eq_false (by omega)]
--# Desk.check_text
def spCkT : Sp := fun vs H Q _ => ∃ (d : Addr) (x : Str), vs = [.ref d, .str x] ∧ TxOk x ∧ ∀ H', Same H H' → Q .non H'
theorem sc_Desk_check_text : FnScope ["self", "text"] ["self", "text"] (defScope s_Desk_check_text) := ⟨rfl, rfl, rfl, by decide +kernel, rfl, by decide +kernel, by decide +kernel⟩
theorem c_Desk_check_text {P : Program} {w : World} {K : PySem.W.Frag} {mg : Str → Option Value} {base : Heap} (T : Tx K mg) : C8.Met P w K mg base 2 (He.ga K "Desk") "check_text" (spCkT) [] := by
  refine metD T.F_Desk_check_text T.k_Desk T.m_Desk_check_text (fun _ _ _ _ _ _ us hl => match us, hl with | [_, _], _ => rfl) sc_Desk_check_text (fun vs H Q E h => ?_) (fun cdv A outer s H vs Q E hr h => ?_)
  · obtain ⟨d, x, rfl, _⟩ := h
    rfl
  · obtain ⟨d, x, rfl, tx, q⟩ := h
    refine ⟨_, (pss_one (ps_if (pt_not (pt_val (C8.pe_c (c_is_text T) hr (by decide) rfl (pa_cons (pv 1) pa_nil))))
      (pss_one ps_never)
      pss_nil)), ?_⟩
    refine ⟨_, rfl, x, rfl, by have := tx.hi; omega, fun H1 s1 => ⟨true, by rw [txB_ok tx], iteF (q _ s1)⟩⟩
--# Desk.is_fresh
def spFre (K : PySem.W.Frag) : Sp := fun vs H Q _ => ∃ (d : Addr) (fr : List Int) (S : De) (ls : List Line) (F : Addr → Prop) (p t : Nat), vs = [.ref d, .int p, .int t] ∧ DeK K H d fr S ls F ∧ S.Ok fr ∧ FrOk fr ∧ p < S.n ∧ t ≤ fr.length ∧ ∀ H', Same H H' → Q (.bl (chain fr (S.row (fr.length + 1) p) t).isNone) H'
theorem sc_Desk_is_fresh : FnScope ["self", "phrase", "tongue"] ["self", "phrase", "tongue"] (defScope s_Desk_is_fresh) := ⟨rfl, rfl, rfl, by decide +kernel, rfl, by decide +kernel, by decide +kernel⟩
theorem c_Desk_is_fresh {P : Program} {w : World} {K : PySem.W.Frag} {mg : Str → Option Value} {base : Heap} (T : Tx K mg) : C8.Met P w K mg base 4 (He.ga K "Desk") "is_fresh" (spFre K) [] := by
  refine metD T.F_Desk_is_fresh T.k_Desk T.m_Desk_is_fresh (fun _ _ _ _ _ _ us hl => match us, hl with | [_, _, _], _ => rfl) sc_Desk_is_fresh (fun vs H Q E h => ?_) (fun cdv A outer s H vs Q E hr h => ?_)
  · obtain ⟨d, fr, S, ls, F, p, t, rfl, _⟩ := h
    rfl
  · obtain ⟨d, fr, S, ls, F, p, t, rfl, hD, ok, fo, hp, ht, q⟩ := h
    refine ⟨_, (pss_one (ps_ret (pe_cmpR op_isN (C8.pe_c (c_chain_up T) hr (by decide) rfl (pa_cons (pe_fld (pe_fld (pv 0) (by rfl)) (by rfl)) (pa_cons (C8.pe_mt (c_Past_cells T) hr (by decide) (pe_fld (pv 0) (by rfl)) (pa_cons (pv 1) pa_nil)) (pa_cons (pv 2) pa_nil)))) pe_non (nomark _)))), ?_⟩
    obtain ⟨B, hB, hF, h3⟩ := id hD
    refine ⟨_, rfl, d, _, _, _, _, rfl, hB.obj, T.k_Desk, T.n_Desk_past, df_past _ _, B.p, _, _, _, _, rfl, hB.past.raw.obj, T.k_Past, T.n_Past_froms, pf_froms _ _, _, rfl, d, _, _, _, _, rfl, hB.obj, T.k_Desk, T.n_Desk_past, df_past _ _, B.p, _, _, rfl, hB.past.raw.obj, rfl, _, rfl, B.p, fr, S, B.A, p, rfl, hB.past, ok.num, fo, hp, fun H1 r s1 nr hr1 => ?_⟩
    refine ⟨_, rfl, B.A.f, fr, r, _, t, rfl, hB.past.raw.frm.same s1, fo, hr1, ok.row hp, ht, fun e H2 s2 => ⟨rfl, qt ?_ (q _ (s1.trans s2))⟩, fun c e H2 l s2 nl hl => ⟨rfl, qt ?_ (q _ (s1.trans s2))⟩⟩
    · rw [e]
      rfl
    · rw [e]
      rfl

end PD

namespace PD
open PySem PySem.Spec PyProof.Rows L2

/-! Phrasedesk: a Desk's deeds -/
--# Desk.__init__
theorem De.none_ok {fr : List Int} : De.none.Ok fr := ⟨fun p t k h => (nomatch h), Nat.zero_le _, fun p h => absurd h (Nat.not_lt_zero _), fun k u h => (nomatch h)⟩
def spDeskInit (K : PySem.W.Frag) : Sp := fun vs H Q _ => ∃ (y dy f : Addr) (fr : List Int), vs = [.ref y, .ref f] ∧ H y = some (.ins (He.ga K "Desk") dy []) ∧ LsAt H f fr ∧ FrOk fr ∧
  ∀ (H' : Hp) (F : Addr → Prop), DeK K H' y fr De.none [] F → (∀ x o, x ≠ y → H x = some o → H' x = some o) → (∀ x, F x → x = y ∨ H x = none) → Q .non H'
theorem sc_Desk_init : FnScope ["self", "froms"] ["self", "froms"] (defScope s_Desk_init) := ⟨rfl, rfl, rfl, by decide +kernel, rfl, by decide +kernel, by decide +kernel⟩
theorem c_Desk_init {P : Program} {w : World} {K : PySem.W.Frag} {mg : Str → Option Value} {base : Heap} (T : Tx K mg) : C8.Mak P w K mg base 4 "Desk" (He.ga K "Desk") (spDeskInit K) [] := by
  refine makD T.F_Desk_init T.i_Desk T.g_Desk (fun _ _ _ _ _ _ us hl => match us, hl with | [_, _], _ => rfl) sc_Desk_init (fun vs H Q E h => ?_) (fun cdv A outer s H vs Q E hr h => ?_)
  · obtain ⟨y, dy, f, fr, rfl, _⟩ := h
    rfl
  · obtain ⟨y, dy, f, fr, rfl, hy, hf, fo, q⟩ := h
    refine ⟨_, (pss_cons (ps_if (pt_not (pt_val (C8.pe_c (c_is_froms T) hr (by decide) rfl (pa_cons (pv 1) pa_nil))))
      (pss_one ps_never)
      pss_nil)
    (pss_cons (ps_fld (pv 0) (C8.pe_mk (c_Past_init T) hr (by decide) rfl (pa_cons (pv 1) pa_nil)) rfl)
    (pss_one (ps_fld (pv 0) (pe_lst pa_nil) rfl)))), ?_⟩
    refine ⟨_, rfl, f, fr, rfl, hf, fo, fun H1 s1 => ⟨true, rfl, iteF ?_⟩⟩
    have hy1 := s1 _ _ hy
    refine ⟨_, rfl, fun p dp np ndp dne => ⟨p, dp, f, fr, rfl, upd_same, ?_, fun H2 A hP k2 f2 => ⟨rfl, ?_⟩⟩⟩
    · have ha := hf.same s1
      unfold LsAt
      rw [upd_ne (ne_of_none ha np), upd_ne (ne_of_none ha ndp)]
      exact ha
    have k12 : ∀ x o, H1 x = some o → H2 x = some o := fun x o e => k2 x o (ne_of_none e np) (by rw [upd_ne (ne_of_none e np), upd_ne (ne_of_none e ndp)]; exact e)
    have hy2 := k12 _ _ hy1
    have yp : y ≠ p := ne_of_none hy1 np
    have f12 : ∀ x, footP p fr 0 A x → H1 x = none := by
      intro x fx
      rcases f2 x fx with z | z
      · rw [z]
        exact np
      · cases e : H1 x with
        | none => rfl
        | some o =>
          rw [upd_ne (ne_of_none e np), upd_ne (ne_of_none e ndp), e] at z
          cases z
    have nyf : ¬ footP p fr 0 A y := fun z => by
      have := f12 y z
      rw [hy1] at this
      cases this
    refine ⟨_, rfl, y, _, dy, [], rfl, hy2, T.k_Desk, T.n_Desk_past, (by show 0 < 1000; decide), ?_⟩
    have hP3 : PastAt (upd H2 y (.ins (He.ga K "Desk") dy (putF "past" (.ref p) []))) (He.ga K "Past") p fr De.none A := hP.keep fun x o fx e => by
      rw [upd_ne (fun z => nyf (by rw [← z]; exact fx))]
      exact e
    have hy3 : (upd H2 y (.ins (He.ga K "Desk") dy (putF "past" (.ref p) []))) y = some (.ins (He.ga K "Desk") dy [("past", .ref p)]) := upd_same
    have k3 : ∀ x o, x ≠ y → H1 x = some o → (upd H2 y (.ins (He.ga K "Desk") dy (putF "past" (.ref p) []))) x = some o := fun x o nx e => by rw [upd_ne nx]; exact k12 x o e
    generalize upd H2 y (.ins (He.ga K "Desk") dy (putF "past" (.ref p) [])) = H3 at hP3 hy3 k3 ⊢
    refine ⟨Nat.zero_le _, fun L nL => ⟨_, rfl, y, _, dy, _, rfl, same_upd nL _ _ hy3, T.k_Desk, T.n_Desk_lines, (by show 1 < 1000; decide), ?_⟩⟩
    have yL : L ≠ y := Ne.symm (ne_of_none hy3 nL)
    have nLf : ¬ footP p fr 0 A L := fun z => by
      obtain ⟨o, e, _⟩ := hP3.raw.foot z
      rw [nL] at e
      cases e
    have k5 : ∀ x o, x ≠ y → H3 x = some o → (upd (upd H3 L (.lst [])) y (.ins (He.ga K "Desk") dy (putF "lines" (.ref L) [("past", .ref p)]))) x = some o := fun x o nx e => by
      rw [upd_ne nx, upd_ne (ne_of_none e nL)]
      exact e
    have hP5 : PastAt (upd (upd H3 L (.lst [])) y (.ins (He.ga K "Desk") dy (putF "lines" (.ref L) [("past", .ref p)]))) (He.ga K "Past") p fr De.none A := hP3.keep fun x o fx e => k5 x o (fun z => nyf (by rw [← z]; exact fx)) e
    have D5 : DeskAt (upd (upd H3 L (.lst [])) y (.ins (He.ga K "Desk") dy (putF "lines" (.ref L) [("past", .ref p)]))) (He.ga K "Desk") (He.ga K "Past") y fr De.none [] ⟨dy, p, L, A⟩ := ⟨upd_same, hP5, ⟨[], by rw [upd_ne yL, upd_same], All2.nil⟩, nyf, nLf⟩
    refine q _ _ (desk_of D5) (fun x o nx e => k5 x o nx (k3 x o nx (s1 _ _ e))) ?_
    rintro x (z | z | z)
    · exact .inl z
    · have z' : x = L := z
      refine .inr ?_
      rw [z']
      cases e : H L with
      | none => rfl
      | some o =>
        rw [k3 L o yL (s1 _ _ e)] at nL
        cases nL
    · exact .inr (s1.free (f12 x z))
--# Desk.put
def spPut (K : PySem.W.Frag) : Sp := fun vs H Q _ => ∃ (d : Addr) (fr : List Int) (S : De) (ls : List Line) (F : Addr → Prop) (p t : Nat) (x : Str) (s o : Option Int), vs = [.ref d, .int p, .int t, .str x, oV s, oV o] ∧ DeK K H d fr S ls F ∧ FrOk fr ∧ S.May fr (.put p t x s o) ∧ S.puts.length < 5000 ∧ ls.length < 5000 ∧
  Goes (He.ga K "Desk") (He.ga K "Past") d fr H F (S.lay p t x s) (ls ++ [.put p t x s o (S.puts.length : Int)]) (Q (.int (S.puts.length : Int)))
theorem De.seen_in {fr : List Int} {S : De} {p t : Nat} {s : Option Int} (h : S.Seen fr p t s) : s ∈ S.seens fr p t := by
  unfold De.seens
  by_cases c : t = 0
  · rw [if_pos c, h.1 c]
    exact List.mem_singleton.mpr rfl
  · rw [if_neg c]
    obtain ⟨k, rfl, v, e1, e2, e3⟩ := h.2 (by omega)
    refine List.mem_map.mpr ⟨((k : Int), v.x), evG_mem.mpr ⟨k, v, e1, e2, e3, ?_⟩, rfl⟩
    rw [Nat.zero_add]
/-- lines with one more -/
theorem DeskAt.line {H H1 : Hp} {CD CP d : Addr} {fr : List Int} {S S' : De} {ls : List Line} {B B' : DA} {vs : List V} {n : Line} {q : Addr} (h : DeskAt H CD CP d fr S ls B) (o : Only (footP B.p fr S.n B.A) H H1) (hP : PastAt H1 CP B.p fr S' B'.A) (e1 : B'.dx = B.dx) (e2 : B'.p = B.p) (e3 : B'.L = B.L)
    (nf : ∀ x, footP B.p fr S'.n B'.A x → footP B.p fr S.n B.A x ∨ H x = none) (hv : H B.L = some (.lst vs)) (hq : (upd H1 q (.tup n.vals)) q = some (.tup n.vals)) (nq : H1 q = none) :
    (upd H1 q (.tup n.vals)) B.L = some (.lst vs) ∧ DeskAt (upd (upd H1 q (.tup n.vals)) B.L (.lst (vs ++ [.ref q]))) CD CP d fr S' (ls ++ [n]) B' := by
  obtain ⟨dx, p, L, A⟩ := B
  obtain ⟨dx', p', L', A'⟩ := B'
  cases e1
  cases e2
  cases e3
  have s2 : Same H1 (upd H1 q (.tup n.vals)) := same_upd nq
  have hl1 := o.out _ _ h.nL hv
  have hl2 := s2 _ _ hl1
  have nL' : ¬ footP p fr S'.n A' L := fun z => (nf L z).elim h.nL fun y => by rw [hv] at y; cases y
  have nd' : ¬ footP p fr S'.n A' d := fun z => (nf d z).elim h.nd fun y => by rw [h.obj] at y; cases y
  refine ⟨hl2, ⟨?_, (hP.same s2).keep fun x o fx e => ?_, ?_, nd', nL'⟩⟩
  · have := s2 _ _ (o.out _ _ h.nd h.obj)
    rw [upd_ne (ne_of h.obj hv (fun z => nomatch z))]
    exact this
  · rw [upd_ne (fun z => nL' (by have z' : x = L := z; rw [← z']; exact fx))]
    exact e
  · have tupk : ∀ {a : Addr} {xs : List V}, H a = some (.tup xs) → H1 a = some (.tup xs) := fun {a xs} e => o.out _ _ (fun z => by
      obtain ⟨u, eu, nu⟩ := h.past.raw.foot z
      rw [e] at eu
      exact nu _ (Option.some.inj eu).symm) e
    obtain ⟨ws, hw, ha⟩ := h.lines
    rw [hv] at hw
    cases (HO.lst.inj (Option.some.inj hw))
    have l2 : LnAt (upd H1 q (.tup n.vals)) L ls := ⟨vs, hl2, ha.mono fun _ _ ⟨a, z, u⟩ => ⟨a, z, s2 _ _ (tupk u)⟩⟩
    exact l2.snoc hl2 ⟨q, rfl, hq⟩
theorem sc_Desk_put : FnScope ["self", "phrase", "tongue", "text", "seen", "over", "number"] ["self", "phrase", "tongue", "text", "seen", "over"] (defScope s_Desk_put) := ⟨rfl, rfl, rfl, by decide +kernel, rfl, by decide +kernel, by decide +kernel⟩
theorem c_Desk_put {P : Program} {w : World} {K : PySem.W.Frag} {mg : Str → Option Value} {base : Heap} (T : Tx K mg) : C8.Met P w K mg base 6 (He.ga K "Desk") "put" (spPut K) [] := by
  refine metD T.F_Desk_put T.k_Desk T.m_Desk_put (fun _ _ _ _ _ _ us hl => match us, hl with | [_, _, _, _, _, _], _ => rfl) sc_Desk_put (fun vs H Q E h => ?_) (fun cdv A outer s H vs Q E hr h => ?_)
  · obtain ⟨d, fr, S, ls, F, p, t, x, s0, ov, rfl, _⟩ := h
    rfl
  · obtain ⟨d, fr, S, ls, F, p, t, x, s0, ov, rfl, hD, fo, may, fw, lw, q⟩ := h
    refine ⟨_, (pss_cons (ps_expr (C8.pe_mt (c_Desk_check_place T) hr (by decide) (pv 0) (pa_cons (pv 1) (pa_cons (pv 2) pa_nil))))
    (pss_cons (ps_expr (C8.pe_mt (c_Desk_check_text T) hr (by decide) (pv 0) (pa_cons (pv 3) pa_nil)))
    (pss_cons (ps_if (pt_not (pt_val (C8.pe_mt (c_Past_was_seen T) hr (by decide) (pe_fld (pv 0) (by rfl)) (pa_cons (pv 1) (pa_cons (pv 2) (pa_cons (pv 4) pa_nil))))))
      (pss_one ps_never)
      pss_nil)
    (pss_cons (ps_if (pt_not (pt_val (C8.pe_mt (c_Past_is_over T) hr (by decide) (pe_fld (pv 0) (by rfl)) (pa_cons (pv 1) (pa_cons (pv 2) (pa_cons (pv 5) pa_nil))))))
      (pss_one ps_never)
      pss_nil)
    (pss_cons (ps_set (i := 6) sc_Desk_put.nd rfl (Or.inl rfl) (C8.pe_mt (c_Past_lay_down T) hr (by decide) (pe_fld (pv 0) (by rfl)) (pa_cons (pv 1) (pa_cons (pv 2) (pa_cons (pv 3) (pa_cons (pv 4) pa_nil))))))
    (pss_cons (ps_expr (pe_bm PySem.F.plainAttrs_list PySem.F.slot_list_append PySem.F.type_list_append mt_append (pe_fld (pv 0) (by rfl)) (pa_cons (pe_tup (pa_cons pe_str (pa_cons (pv 1) (pa_cons (pv 2) (pa_cons (pv 3) (pa_cons (pv 4) (pa_cons (pv 5) (pa_cons (pv 6) pa_nil)))))))) pa_nil)))
    (pss_one (ps_ret (pv 6))))))))), ?_⟩
    obtain ⟨hp, ht, tx, eo, sn⟩ := may
    obtain ⟨B, hB, hF, h3⟩ := id hD
    refine ⟨_, rfl, d, _, _, rfl, hB.obj, rfl, _, rfl, _, rfl, d, fr, S, ls, F, p, t, rfl, hD, hp, ht, ?_⟩
    refine ⟨_, rfl, d, _, _, rfl, hB.obj, rfl, _, rfl, d, x, rfl, tx, fun H1 s1 => ?_⟩
    have hB1 : DeskAt H1 (He.ga K "Desk") (He.ga K "Past") d fr S ls B := hB.keep (fun x o _ e => s1 _ _ e) (fun _ _ e => s1 _ _ e)
    refine ⟨_, rfl, d, _, _, _, _, rfl, hB1.obj, T.k_Desk, T.n_Desk_past, df_past _ _, B.p, _, _, rfl, hB1.past.raw.obj, rfl, _, rfl, _, rfl, _, rfl, B.p, fr, S, B.A, p, t, s0, rfl, hB1.past, fo, hp, ht, fun H2 s2 => ⟨true, by rw [decide_eq_true (De.seen_in sn)], iteF ?_⟩⟩
    have hB2 : DeskAt H2 (He.ga K "Desk") (He.ga K "Past") d fr S ls B := hB1.keep (fun x o _ e => s2 _ _ e) (fun _ _ e => s2 _ _ e)
    refine ⟨_, rfl, d, _, _, _, _, rfl, hB2.obj, T.k_Desk, T.n_Desk_past, df_past _ _, B.p, _, _, rfl, hB2.past.raw.obj, rfl, _, rfl, _, rfl, _, rfl, B.p, fr, S, B.A, p, t, ov, rfl, hB2.past, hp, ht, fun H3 s3 => ⟨true, by rw [decide_eq_true eo], iteF ?_⟩⟩
    have hB3 : DeskAt H3 (He.ga K "Desk") (He.ga K "Past") d fr S ls B := hB2.keep (fun x o _ e => s3 _ _ e) (fun _ _ e => s3 _ _ e)
    have s03 := (s1.trans s2).trans s3
    refine ⟨_, rfl, d, _, _, _, _, rfl, hB3.obj, T.k_Desk, T.n_Desk_past, df_past _ _, B.p, _, _, rfl, hB3.past.raw.obj, rfl, _, rfl, _, rfl, _, rfl, _, rfl, B.p, fr, S, B.A, p, t, x, s0, rfl, hB3.past, hp, ht, fw, fun H4 hP4 o4 => ?_⟩
    obtain ⟨vs, hv, hal⟩ := hB3.lines
    have hd4 := o4.out _ _ hB3.nd hB3.obj
    have hL4 := o4.out _ _ hB3.nL hv
    refine ⟨_, rfl, d, _, _, _, _, rfl, hd4, T.k_Desk, T.n_Desk_lines, df_lines _ _, .inl ⟨rfl, _, SqL.of hL4⟩, _, rfl, _, rfl, _, rfl, _, rfl, _, rfl, _, rfl, (by show 7 ≤ sizeLine; decide), fun b nb => ?_⟩
    obtain ⟨hl5, hB5⟩ := hB3.line (B' := B) (n := .put p t x s0 ov (S.puts.length : Int)) (q := b) o4 hP4 rfl rfl rfl (fun x z => .inl z) hv upd_same nb
    refine ⟨B.L, _, _, rfl, rfl, hl5, by rw [hal.len]; exact small5000 (by omega), ?_⟩
    refine ⟨_, rfl, q _ _ (desk_of hB5) ?_ ?_⟩
    · have o5 := (o4.same (same_upd nb (o := .tup (Line.put p t x s0 ov (S.puts.length : Int)).vals))).mono (G := F) fun x z => hF x (.inr (.inr z))
      have o6 := o5.set (y := B.L) (o := .lst (vs ++ [V.ref b])) (hF _ (.inr (.inl rfl)))
      exact (only_same s03).trans o6
    · exact fun x z => .inl (hF x z)
--# Desk.phrase
def spPhrase (K : PySem.W.Frag) : Sp := fun vs H Q _ => ∃ (d : Addr) (fr : List Int) (S : De) (ls : List Line) (F : Addr → Prop) (x : Str), vs = [.ref d, .str x] ∧ DeK K H d fr S ls F ∧ FrOk fr ∧ S.Ok fr ∧ S.May fr (.phrase x) ∧ S.puts.length < 5000 ∧ ls.length < 5000 ∧
  Goes (He.ga K "Desk") (He.ga K "Past") d fr H F (S.more.lay S.n 0 x none) (ls ++ [.phrase S.n x (S.puts.length : Int)]) (Q (.int (S.n : Int)))
theorem sc_Desk_phrase : FnScope ["self", "text", "phrase", "number"] ["self", "text"] (defScope s_Desk_phrase) := ⟨rfl, rfl, rfl, by decide +kernel, rfl, by decide +kernel, by decide +kernel⟩
theorem c_Desk_phrase {P : Program} {w : World} {K : PySem.W.Frag} {mg : Str → Option Value} {base : Heap} (T : Tx K mg) : C8.Met P w K mg base 3 (He.ga K "Desk") "phrase" (spPhrase K) [] := by
  refine metD T.F_Desk_phrase T.k_Desk T.m_Desk_phrase (fun _ _ _ _ _ _ us hl => match us, hl with | [_, _], _ => rfl) sc_Desk_phrase (fun vs H Q E h => ?_) (fun cdv A outer s H vs Q E hr h => ?_)
  · obtain ⟨d, fr, S, ls, F, x, rfl, _⟩ := h
    rfl
  · obtain ⟨d, fr, S, ls, F, x, rfl, hD, fo, ok, may, fw, lw, q⟩ := h
    refine ⟨_, (pss_cons (ps_expr (C8.pe_mt (c_Desk_check_text T) hr (by decide) (pv 0) (pa_cons (pv 1) pa_nil)))
    (pss_cons (ps_if (pt_cmpR op_ge (pe_fld (pe_fld (pv 0) (by rfl)) (by rfl)) (pe_glob (v := .int 6) rfl (T.g_MOST_PHRASES).choose_spec ⟨_, rfl⟩) (nomark _))
      (pss_one ps_never)
      pss_nil)
    (pss_cons (ps_set (i := 2) sc_Desk_phrase.nd rfl (Or.inl rfl) (C8.pe_mt0 (c_Past_begin_phrase T) hr (by decide) (pe_fld (pv 0) (by rfl))))
    (pss_cons (ps_set (i := 3) sc_Desk_phrase.nd rfl (Or.inl rfl) (C8.pe_mt (c_Past_lay_down T) hr (by decide) (pe_fld (pv 0) (by rfl)) (pa_cons (pv 2) (pa_cons pe_int (pa_cons (pv 1) (pa_cons pe_non pa_nil))))))
    (pss_cons (ps_expr (pe_bm PySem.F.plainAttrs_list PySem.F.slot_list_append PySem.F.type_list_append mt_append (pe_fld (pv 0) (by rfl)) (pa_cons (pe_tup (pa_cons pe_str (pa_cons (pv 2) (pa_cons (pv 1) (pa_cons (pv 3) pa_nil))))) pa_nil)))
    (pss_one (ps_ret (pv 2)))))))), ?_⟩
    obtain ⟨n6, tx⟩ := may
    obtain ⟨B, hB, hF, h3⟩ := id hD
    refine ⟨_, rfl, d, _, _, rfl, hB.obj, rfl, _, rfl, d, x, rfl, tx, fun H1 s1 => ?_⟩
    have hB1 : DeskAt H1 (He.ga K "Desk") (He.ga K "Past") d fr S ls B := hB.keep (fun x o _ e => s1 _ _ e) (fun _ _ e => s1 _ _ e)
    refine ⟨_, rfl, d, _, _, _, _, rfl, hB1.obj, T.k_Desk, T.n_Desk_past, df_past _ _, B.p, _, _, _, _, rfl, hB1.past.raw.obj, T.k_Past, T.n_Past_phrases, pf_phrases _ _, _, _, rfl, rfl, false, congrArg V.bl (decide_eq_false (by omega)), iteF ?_⟩
    refine ⟨_, rfl, d, _, _, _, _, rfl, hB1.obj, T.k_Desk, T.n_Desk_past, df_past _ _, B.p, _, _, rfl, hB1.past.raw.obj, rfl, B.p, fr, S, B.A, rfl, hB1.past, ok, fo, n6, fun H2 A2 hP2 o2 f2 => ?_⟩
    have hd2 := o2.out _ _ hB1.nd hB1.obj
    refine ⟨_, rfl, d, _, _, _, _, rfl, hd2, T.k_Desk, T.n_Desk_past, df_past _ _, B.p, _, _, rfl, hP2.raw.obj, rfl, _, rfl, _, rfl, B.p, fr, S.more, A2, S.n, 0, x, none, rfl, hP2, Nat.lt_succ_self _, Nat.zero_le _, fw, fun H4 hP4 o4' => ?_⟩
    have o4 : Only (footP B.p fr S.n B.A) H1 H4 := by
      refine ⟨fun y o n e => o4'.out y o (fun z => (f2 y z).elim n fun w => by rw [e] at w; cases w) (o2.out y o n e), fun y o e => ?_⟩
      obtain ⟨u, eu⟩ := o2.grow y o e
      exact o4'.grow y u eu
    obtain ⟨vs, hv, hal⟩ := hB1.lines
    have hd4 := o4.out _ _ hB1.nd hB1.obj
    have hL4 := o4.out _ _ hB1.nL hv
    refine ⟨_, rfl, d, _, _, _, _, rfl, hd4, T.k_Desk, T.n_Desk_lines, df_lines _ _, .inl ⟨rfl, _, SqL.of hL4⟩, _, rfl, _, rfl, _, rfl, (by show 4 ≤ sizeLine; decide), fun b nb => ?_⟩
    obtain ⟨hl5, hB5⟩ := hB1.line (B' := ⟨B.dx, B.p, B.L, A2⟩) (n := .phrase S.n x (S.puts.length : Int)) (q := b) o4 hP4 rfl rfl rfl f2 hv upd_same nb
    refine ⟨B.L, _, _, rfl, rfl, hl5, by rw [hal.len]; exact small5000 (by omega), ?_⟩
    refine ⟨_, rfl, q _ _ (desk_of hB5) ?_ ?_⟩
    · have o5 := (o4.same (same_upd nb (o := .tup (Line.phrase S.n x (S.puts.length : Int)).vals))).mono (G := F) fun x z => hF x (.inr (.inr z))
      have o6 := o5.set (y := B.L) (o := .lst (vs ++ [V.ref b])) (hF _ (.inr (.inl rfl)))
      exact (only_same s1).trans o6
    · rintro y (z | z | z)
      · exact .inl (hF y (.inl z))
      · exact .inl (hF y (.inr (.inl z)))
      · exact (f2 y z).imp (fun w => hF y (.inr (.inr w))) (fun w => s1.free w)
--# Desk.back
def spBack (K : PySem.W.Frag) : Sp := fun vs H Q _ => ∃ (d : Addr) (fr : List Int) (S : De) (ls : List Line) (F : Addr → Prop) (p t : Nat) (k : Int), vs = [.ref d, .int p, .int t] ∧ DeK K H d fr S ls F ∧ S.May fr (.back p t) ∧ S.now p t = some k ∧ ls.length < 5000 ∧
  Goes (He.ga K "Desk") (He.ga K "Past") d fr H F (S.off p t) (ls ++ [.back p t k]) (Q (.int k))
theorem sc_Desk_back : FnScope ["self", "phrase", "tongue", "number"] ["self", "phrase", "tongue"] (defScope s_Desk_back) := ⟨rfl, rfl, rfl, by decide +kernel, rfl, by decide +kernel, by decide +kernel⟩
theorem c_Desk_back {P : Program} {w : World} {K : PySem.W.Frag} {mg : Str → Option Value} {base : Heap} (T : Tx K mg) : C8.Met P w K mg base 6 (He.ga K "Desk") "back" (spBack K) [] := by
  refine metD T.F_Desk_back T.k_Desk T.m_Desk_back (fun _ _ _ _ _ _ us hl => match us, hl with | [_, _, _], _ => rfl) sc_Desk_back (fun vs H Q E h => ?_) (fun cdv A outer s H vs Q E hr h => ?_)
  · obtain ⟨d, fr, S, ls, F, p, t, k, rfl, _⟩ := h
    rfl
  · obtain ⟨d, fr, S, ls, F, p, t, k, rfl, hD, may, ek, lw, q⟩ := h
    refine ⟨_, (pss_cons (ps_expr (C8.pe_mt (c_Desk_check_place T) hr (by decide) (pv 0) (pa_cons (pv 1) (pa_cons (pv 2) pa_nil))))
    (pss_cons (ps_if (pt_not (pt_val (C8.pe_mt (c_Past_can_take_off T) hr (by decide) (pe_fld (pv 0) (by rfl)) (pa_cons (pv 1) (pa_cons (pv 2) pa_nil)))))
      (pss_one ps_never)
      pss_nil)
    (pss_cons (ps_set (i := 3) sc_Desk_back.nd rfl (Or.inl rfl) (C8.pe_mt (c_Past_take_off T) hr (by decide) (pe_fld (pv 0) (by rfl)) (pa_cons (pv 1) (pa_cons (pv 2) pa_nil))))
    (pss_cons (ps_expr (pe_bm PySem.F.plainAttrs_list PySem.F.slot_list_append PySem.F.type_list_append mt_append (pe_fld (pv 0) (by rfl)) (pa_cons (pe_tup (pa_cons pe_str (pa_cons (pv 1) (pa_cons (pv 2) (pa_cons (pv 3) pa_nil))))) pa_nil)))
    (pss_one (ps_ret (pv 3))))))), ?_⟩
    obtain ⟨hp, ht, hl⟩ := may
    obtain ⟨B, hB, hF, h3⟩ := id hD
    refine ⟨_, rfl, d, _, _, rfl, hB.obj, rfl, _, rfl, _, rfl, d, fr, S, ls, F, p, t, rfl, hD, hp, ht, ?_⟩
    refine ⟨_, rfl, d, _, _, _, _, rfl, hB.obj, T.k_Desk, T.n_Desk_past, df_past _ _, B.p, _, _, rfl, hB.past.raw.obj, rfl, _, rfl, _, rfl, B.p, fr, S, B.A, p, t, rfl, hB.past, hp, ht, fun H1 s1 => ⟨true, by rw [decide_eq_true hl], iteF ?_⟩⟩
    have hB1 : DeskAt H1 (He.ga K "Desk") (He.ga K "Past") d fr S ls B := hB.keep (fun x o _ e => s1 _ _ e) (fun _ _ e => s1 _ _ e)
    refine ⟨_, rfl, d, _, _, _, _, rfl, hB1.obj, T.k_Desk, T.n_Desk_past, df_past _ _, B.p, _, _, rfl, hB1.past.raw.obj, rfl, _, rfl, _, rfl, B.p, fr, S, B.A, p, t, k, rfl, hB1.past, hp, ht, ek, fun H4 hP4 o4 => ?_⟩
    obtain ⟨vs, hv, hal⟩ := hB1.lines
    have hd4 := o4.out _ _ hB1.nd hB1.obj
    have hL4 := o4.out _ _ hB1.nL hv
    refine ⟨_, rfl, d, _, _, _, _, rfl, hd4, T.k_Desk, T.n_Desk_lines, df_lines _ _, .inl ⟨rfl, _, SqL.of hL4⟩, _, rfl, _, rfl, _, rfl, (by show 4 ≤ sizeLine; decide), fun b nb => ?_⟩
    obtain ⟨hl5, hB5⟩ := hB1.line (B' := B) (n := .back p t k) (q := b) o4 hP4 rfl rfl rfl (fun x z => .inl z) hv upd_same nb
    refine ⟨B.L, _, _, rfl, rfl, hl5, by rw [hal.len]; exact small5000 (by omega), ?_⟩
    refine ⟨_, rfl, q _ _ (desk_of hB5) ?_ ?_⟩
    · have o5 := (o4.same (same_upd nb (o := .tup (Line.back p t k).vals))).mono (G := F) fun x z => hF x (.inr (.inr z))
      have o6 := o5.set (y := B.L) (o := .lst (vs ++ [V.ref b])) (hF _ (.inr (.inl rfl)))
      exact (only_same s1).trans o6
    · exact fun x z => .inl (hF x z)

end PD

namespace PD
open PySem PySem.Spec PyProof.Rows L2

/-! Phrasedesk: a Desk's like texts, and filling -/
--# Desk.likes
theorem De.fresh_up {fr : List Int} {S : De} {q t : Nat} (fo : FrOk fr) (t0 : 0 < t) (t1 : t ≤ fr.length) (h : chain fr (S.row (fr.length + 1) q) t = Option.none) : ∃ k, S.now q (up fr t) = some k := by
  rw [chain_step fo t0 t1] at h
  have hu := up_lt fo t0 t1
  cases e : S.now q (up fr t) with
  | some k => exact ⟨k, rfl⟩
  | none =>
    exfalso
    have b : brk fr (S.row (fr.length + 1) q) t = true := by
      have z : (S.row (fr.length + 1) q).getD (up fr t) Option.none = Option.none := by
        rw [List.getD_eq_getElem?_getD, De.row_at (by omega)]
        unfold De.cell
        rw [e]
        rfl
      unfold brk
      rw [z]
      cases (S.row (fr.length + 1) q).getD t Option.none <;> rfl
    rw [b] at h
    cases h
def De.oth (fr : List Int) (S : De) (p t q : Nat) : Bool := decide (q ≠ p) && (chain fr (S.row (fr.length + 1) q) t).isNone
theorem De.like_eq {fr : List Int} {S : De} {p q t : Nat} (fo : FrOk fr) (t0 : 0 < t) (t1 : t ≤ fr.length) : S.like fr p t q = (S.oth fr p t q && decide (S.tV q (up fr t) = S.tV p (up fr t))) := by
  unfold De.like De.oth
  by_cases c1 : q ≠ p
  case neg => rw [decide_eq_false c1, Bool.false_and, Bool.false_and, Bool.false_and]
  rw [decide_eq_true c1, Bool.true_and, Bool.true_and]
  cases ec : chain fr (S.row (fr.length + 1) q) t with
  | some c => simp
  | none =>
    obtain ⟨k, ek⟩ := De.fresh_up fo t0 t1 ec
    unfold De.tV De.tx
    rw [ek]
    cases em : S.now p (up fr t) with
    | none => rfl
    | some m =>
      simp only [Option.isSome_some, Option.isNone_none, Bool.true_and, Bool.and_true]
      refine decide_eq_decide.mpr ⟨fun z => by rw [z], fun z => (V.str.inj z).symm⟩
theorem filter_found {fr : List Int} {S : De} {p t n : Nat} (fo : FrOk fr) (t0 : 0 < t) (t1 : t ≤ fr.length) : (((List.range n).filter (S.oth fr p t)).filter fun q => decide (S.tV q (up fr t) = S.tV p (up fr t))) = (List.range n).filter (S.like fr p t) := by
  rw [List.filter_filter]
  congr 1
  funext q
  rw [De.like_eq fo t0 t1, Bool.and_comm]
theorem range_filter_lt {n : Nat} {f : Nat → Bool} {i q : Nat} (h : ((List.range n).filter f)[i]? = some q) : q < n ∧ f q = true := by
  have := List.mem_of_getElem? h
  rw [List.mem_filter, List.mem_range] at this
  exact this
def nats (l : List Nat) : List V := l.map fun (q : Nat) => V.int (q : Int)
theorem nats_at {l : List Nat} {i : Nat} {v : V} (h : (nats l)[i]? = some v) : ∃ q, l[i]? = some q ∧ v = .int (q : Int) := by
  unfold nats at h
  rw [List.getElem?_map] at h
  cases e : l[i]? with
  | none =>
    rw [e] at h
    cases h
  | some q =>
    rw [e] at h
    exact ⟨q, rfl, (Option.some.inj h).symm⟩
def spDLikes (K : PySem.W.Frag) : Sp := fun vs H Q _ => ∃ (d : Addr) (fr : List Int) (S : De) (ls : List Line) (F : Addr → Prop) (p t : Nat), vs = [.ref d, .int p, .int t] ∧ DeK K H d fr S ls F ∧ S.Ok fr ∧ FrOk fr ∧ p < S.n ∧ 0 < t ∧ t ≤ fr.length ∧
  ∀ (H' : Hp) (a : Addr) (ts : List Str), Same H H' → H a = none → H' a = some (.lst (ts.map V.str)) → sortedS ts = true → ts.Nodup → (∀ y, y ∈ ts ↔ y ∈ S.found fr p t S.n) → Q (.ref a) H'
theorem sc_Desk_likes : FnScope ["self", "phrase", "tongue", "above", "text", "others", "same", "other"] ["self", "phrase", "tongue"] (defScope s_Desk_likes) := ⟨rfl, rfl, rfl, by decide +kernel, rfl, by decide +kernel, by decide +kernel⟩
theorem c_Desk_likes {P : Program} {w : World} {K : PySem.W.Frag} {mg : Str → Option Value} {base : Heap} (T : Tx K mg) : C8.Met P w K mg base 5 (He.ga K "Desk") "likes" (spDLikes K) [] := by
  refine metD T.F_Desk_likes T.k_Desk T.m_Desk_likes (fun _ _ _ _ _ _ us hl => match us, hl with | [_, _, _], _ => rfl) sc_Desk_likes (fun vs H Q E h => ?_) (fun cdv A outer s H vs Q E hr h => ?_)
  · obtain ⟨d, fr, S, ls, F, p, t, rfl, _⟩ := h
    rfl
  · obtain ⟨d, fr, S, ls, F, p, t, rfl, hD, ok, fo, hp, t0, t1, q⟩ := h
    refine ⟨_, (pss_cons (ps_expr (C8.pe_mt (c_Desk_check_phrase T) hr (by decide) (pv 0) (pa_cons (pv 1) pa_nil)))
    (pss_cons (ps_expr (C8.pe_mt (c_Desk_check_other_tongue T) hr (by decide) (pv 0) (pa_cons (pv 2) pa_nil)))
    (pss_cons (ps_set (i := 3) sc_Desk_likes.nd rfl (Or.inr rfl) (C8.pe_c (c_put_from T) hr (by decide) rfl (pa_cons (pe_fld (pe_fld (pv 0) (by rfl)) (by rfl)) (pa_cons (pv 2) pa_nil))))
    (pss_cons (ps_set (i := 4) sc_Desk_likes.nd rfl (Or.inr rfl) (C8.pe_mt (c_Past_text_standing T) hr (by decide) (pe_fld (pv 0) (by rfl)) (pa_cons (pv 1) (pa_cons (pv 3) pa_nil))))
    (pss_cons (ps_setLc (i := 5) (own := [("other", 7)]) (g := gName 7) (by rfl) sc_Desk_likes.nd rfl rfl (sw_true rfl rfl rfl (by decide +kernel)) (pi_range1 (by rfl) T.f_range (pa_cons (pe_fld (pe_fld (pv 0) (by rfl)) (by rfl)) pa_nil)) (blkOk_by (own := [("other", 7)]) (N := ["self", "phrase", "tongue", "above", "text", "others", "same", "other"]) (sc := defScope s_Desk_likes) (by decide +kernel)) (fun _ _ _ _ _ => (pg_name (i := 7) sc_Desk_likes.nd rfl (Or.inl rfl))) (fun _ _ _ _ _ => (pts_one (PW.pt (pw_and (pt_cmpR op_ne (pv 7) (pv 1) (nomark _)) (pw_and1 (pt_val (C8.pe_mt (c_Desk_is_fresh T) hr (by decide) (pv 0) (pa_cons (pv 7) (pa_cons (pv 2) pa_nil))))))))) (fun _ _ _ _ _ => (pv 7)))
    (pss_cons (ps_setLc (i := 6) (own := [("other", 7)]) (g := gName 7) (by rfl) sc_Desk_likes.nd rfl rfl (sw_true rfl rfl rfl (by decide +kernel)) (pi_list (pv 5)) (blkOk_by (own := [("other", 7)]) (N := ["self", "phrase", "tongue", "above", "text", "others", "same", "other"]) (sc := defScope s_Desk_likes) (by decide +kernel)) (fun _ _ _ _ _ => (pg_name (i := 7) sc_Desk_likes.nd rfl (Or.inl rfl))) (fun _ _ _ _ _ => (pts_one (pt_cmpR op_eq (C8.pe_mt (c_Past_text_standing T) hr (by decide) (pe_fldK (K := K) (by rfl) (pv 0) (by rfl)) (pa_cons (pv 7) (pa_cons (pv 3) pa_nil))) (pv 4) (nomark _)))) (fun _ _ _ _ _ => (pv 7)))
    (pss_one (ps_ret (pe_srt rfl (by rfl) T.f_sorted (by rfl) T.f_set (pe_lc (own := [("other", 7)]) (g := gName 7) (tt := tYes) (by rfl) sc_Desk_likes.nd (pi_list (pv 6)) (blkOk_by (own := [("other", 7)]) (N := ["self", "phrase", "tongue", "above", "text", "others", "same", "other"]) (sc := defScope s_Desk_likes) (by decide +kernel)) (fun _ _ _ _ _ => (pg_name (i := 7) sc_Desk_likes.nd rfl (Or.inl rfl))) (fun _ _ _ _ _ => pts_nil) (fun _ _ _ _ _ => (C8.pe_mt (c_Past_text_standing T) hr (by decide) (pe_fldK (K := K) (by rfl) (pv 0) (by rfl)) (pa_cons (pv 7) (pa_cons (pv 2) pa_nil)))))))))))))), ?_⟩
    obtain ⟨B, hB, hF, h3⟩ := id hD
    obtain ⟨x, ex, x0, xl, xu⟩ := fo.at t0 t1
    subst xu
    have hu := up_lt fo t0 t1
    have n6 := ok.six
    refine ⟨_, rfl, d, _, _, rfl, hB.obj, rfl, _, rfl, d, fr, S, ls, F, p, rfl, hD, hp, ?_⟩
    refine ⟨_, rfl, d, _, _, rfl, hB.obj, rfl, _, rfl, d, fr, S, ls, F, t, rfl, hD, t0, t1, ?_⟩
    refine ⟨_, rfl, d, _, _, _, _, rfl, hB.obj, T.k_Desk, T.n_Desk_past, df_past _ _, B.p, _, _, _, _, rfl, hB.past.raw.obj, T.k_Past, T.n_Past_froms, pf_froms _ _, _, rfl, B.A.f, fr, t, _, rfl, hB.past.raw.frm, t0, ex, ?_⟩
    refine ⟨_, rfl, d, _, _, _, _, rfl, hB.obj, T.k_Desk, T.n_Desk_past, df_past _ _, B.p, _, _, rfl, hB.past.raw.obj, rfl, _, rfl, _, rfl, B.p, fr, S, B.A, p, up fr t, rfl, hB.past, ok.num, hp, by omega, fun H1 s1 => ?_⟩
    have hB1 : DeskAt H1 (He.ga K "Desk") (He.ga K "Past") d fr S ls B := hB.keep (fun x o _ e => s1 _ _ e) (fun _ _ e => s1 _ _ e)
    refine ⟨_, rfl, d, _, _, _, _, rfl, hB1.obj, T.k_Desk, T.n_Desk_past, df_past _ _, B.p, _, _, _, _, rfl, hB1.past.raw.obj, T.k_Past, T.n_Past_phrases, pf_phrases _ _, _, rfl, by omega, by omega, fun D nD => ?_⟩
    refine lc_range (lo := 0) (n := (S.n : Int).toNat) (fun i H2 => Same H1 H2 ∧ H2 D = some (.lst (nats ((List.range i).filter (S.oth fr p t))))) ⟨same_upd nD, upd_same⟩ ?_ ?_
    · rintro i H2 hi ⟨s2, hD2⟩
      rw [show (0 + (i : Int)) = (i : Int) from Int.zero_add _]
      have hin : i < S.n := by omega
      have flen : ((List.range i).filter (S.oth fr p t)).length ≤ i := by
        have := List.length_filter_le (S.oth fr p t) (List.range i)
        rw [List.length_range] at this
        exact this
      refine ⟨rfl, _, rfl, _, rfl, rfl, !decide (i = p), congrArg (fun b => V.bl (!b)) dec_nat, ?_⟩
      by_cases c1 : i = p
      · rw [decide_eq_true c1]
        refine iteF (iteF ⟨s2, ?_⟩)
        rw [List.range_succ, List.filter_append, List.filter_cons_of_neg (by unfold De.oth; rw [decide_eq_false (fun z => z c1)]; simp), List.filter_nil, List.append_nil]
        exact hD2
      rw [decide_eq_false c1]
      refine iteT ⟨_, rfl, d, _, _, rfl, s2 _ _ hB1.obj, rfl, _, rfl, _, rfl, d, fr, S, ls, F, i, t, rfl, (hD.same s1).same s2, ok, fo, hin, t1, fun H3 s3 => ⟨_, rfl, ?_⟩⟩
      have eo : S.oth fr p t i = (chain fr (S.row (fr.length + 1) i) t).isNone := by
        unfold De.oth
        rw [decide_eq_true c1, Bool.true_and]
      cases c2 : (chain fr (S.row (fr.length + 1) i) t).isNone with
      | true =>
        rw [c2] at eo
        refine iteT ⟨_, rfl, _, s3 _ _ hD2, ?_, Same.chg (s2.trans s3) nD, ?_⟩
        · unfold nats
          rw [List.length_map]
          exact small1000 (by omega)
        · rw [upd_same, List.range_succ, List.filter_append, List.filter_cons_of_pos eo, List.filter_nil]
          unfold nats
          rw [List.map_append]
          rfl
      | false =>
        rw [c2] at eo
        refine iteF ⟨s2.trans s3, ?_⟩
        rw [List.range_succ, List.filter_append, List.filter_cons_of_neg (by rw [eo]; decide), List.filter_nil, List.append_nil]
        exact s3 _ _ hD2
    rintro H2 ⟨s2, hD2⟩
    rw [show (S.n : Int).toNat = S.n by omega] at hD2
    have s02 := s1.trans s2
    have hB2 : DeskAt H2 (He.ga K "Desk") (He.ga K "Past") d fr S ls B := hB1.keep (fun x o _ e => s2 _ _ e) (fun _ _ e => s2 _ _ e)
    generalize hO : (List.range S.n).filter (S.oth fr p t) = O at hD2
    have Olen : O.length ≤ 6 := by
      rw [← hO]
      have := List.length_filter_le (S.oth fr p t) (List.range S.n)
      rw [List.length_range] at this
      omega
    refine ⟨_, rfl, D, rfl, ⟨_, SqL.of hD2⟩, fun G nG => ?_⟩
    refine lc_list (K := K) (a := D) (xs := nats O) (fun i H3 => Same H2 H3 ∧ H3 G = some (.lst (nats ((O.take i).filter fun q => decide (S.tV q (up fr t) = S.tV p (up fr t)))))) ⟨same_upd nG, upd_same⟩ (fun i H3 _ z => SqL.of (z.1 _ _ hD2)) ?_ ?_
    · rintro i v H3 hv ⟨s3, hG⟩
      obtain ⟨r, er, rfl⟩ := nats_at hv
      have hr := range_filter_lt (by rw [hO]; exact er)
      have tk : O.take (i + 1) = O.take i ++ [r] := by rw [List.take_add_one, er]; rfl
      refine ⟨rfl, _, rfl, d, _, _, _, _, rfl, s3 _ _ hB2.obj, T.k_Desk, T.n_Desk_past, df_past _ _, B.p, _, _, rfl, s3 _ _ hB2.past.raw.obj, rfl, _, rfl, _, rfl, B.p, fr, S, B.A, r, up fr t, rfl, hB2.past.same s3, ok.num, hr.1, by omega, fun H4 s4 => ⟨_, rfl, ?_⟩⟩
      have tlen : ((O.take i).filter fun q => decide (S.tV q (up fr t) = S.tV p (up fr t))).length ≤ 6 := by
        have h1 := List.length_filter_le (fun q => decide (S.tV q (up fr t) = S.tV p (up fr t))) (O.take i)
        rw [List.length_take] at h1
        omega
      refine ⟨by unfold De.tV; cases S.now r (up fr t) <;> cases S.now p (up fr t) <;> rfl, decide (S.tV r (up fr t) = S.tV p (up fr t)), rfl, ?_⟩
      by_cases c : S.tV r (up fr t) = S.tV p (up fr t)
      · rw [decide_eq_true c]
        refine iteT ⟨_, rfl, _, s4 _ _ hG, ?_, Same.chg (s3.trans s4) nG, ?_⟩
        · unfold nats
          rw [List.length_map]
          exact small1000 (by omega)
        · rw [upd_same, tk, List.filter_append, List.filter_cons_of_pos (p := fun q => decide (S.tV q (up fr t) = S.tV p (up fr t))) (decide_eq_true c), List.filter_nil]
          unfold nats
          rw [List.map_append]
          rfl
      · rw [decide_eq_false c]
        refine iteF ⟨s3.trans s4, ?_⟩
        rw [tk, List.filter_append, List.filter_cons_of_neg (p := fun q => decide (S.tV q (up fr t) = S.tV p (up fr t))) (by show ¬ decide (S.tV r (up fr t) = S.tV p (up fr t)) = true; rw [decide_eq_false c]; decide), List.filter_nil, List.append_nil]
        exact s4 _ _ hG
    rintro H3 ⟨s3, hG⟩
    rw [show (nats O).length = O.length from List.length_map _, List.take_length, ← hO, filter_found fo t0 t1] at hG
    have s03 := s02.trans s3
    have hB3 : DeskAt H3 (He.ga K "Desk") (He.ga K "Past") d fr S ls B := hB2.keep (fun x o _ e => s3 _ _ e) (fun _ _ e => s3 _ _ e)
    refine ⟨_, rfl, G, rfl, ⟨_, SqL.of hG⟩, fun R nR => ?_⟩
    refine lc_list (K := K) (a := G) (xs := nats ((List.range S.n).filter (S.like fr p t))) (fun i H4 => Same H3 H4 ∧ H4 R = some (.lst (((((List.range S.n).filter (S.like fr p t)).take i).map fun q => S.tx q t).map V.str))) ⟨same_upd nR, upd_same⟩ (fun i H4 _ z => SqL.of (z.1 _ _ hG)) ?_ ?_
    · rintro i v H4 hv ⟨s4, hR⟩
      obtain ⟨r, er, rfl⟩ := nats_at hv
      have hr := range_filter_lt er
      have hc : chain fr (S.row (fr.length + 1) r) t = none := by
        have := hr.2
        rw [De.like_eq fo t0 t1] at this
        unfold De.oth at this
        rw [Bool.and_eq_true, Bool.and_eq_true] at this
        exact Option.isNone_iff_eq_none.mp this.1.2
      obtain ⟨k, ek⟩ := De.fresh_now fo t0 t1 hc
      have etx : S.tV r t = .str (S.tx r t) := by
        unfold De.tV De.tx
        rw [ek]
      refine ⟨rfl, _, rfl, d, _, _, _, _, rfl, s4 _ _ hB3.obj, T.k_Desk, T.n_Desk_past, df_past _ _, B.p, _, _, rfl, s4 _ _ hB3.past.raw.obj, rfl, _, rfl, _, rfl, B.p, fr, S, B.A, r, t, rfl, hB3.past.same s4, ok.num, hr.1, t1, fun H5 s5 => ⟨_, s5 _ _ hR, ?_, Same.chg (s4.trans s5) nR, ?_⟩⟩
      · rw [List.length_map, List.length_map, List.length_take]
        have h1 := List.length_filter_le (S.like fr p t) (List.range S.n)
        rw [List.length_range] at h1
        exact small1000 (by omega)
      · rw [upd_same, List.take_add_one, er, Option.toList_some, List.map_append, List.map_append, etx]
        rfl
    rintro H4 ⟨s4, hR⟩
    rw [show (nats ((List.range S.n).filter (S.like fr p t))).length = ((List.range S.n).filter (S.like fr p t)).length from List.length_map _, List.take_length] at hR
    have fl := De.found_len (fr := fr) (S := S) (p := p) (t := t) (i := S.n)
    refine ⟨R, S.found fr p t S.n, rfl, SqL.of hR, by omega, fun ts a srt nd mem na => ?_⟩
    exact q _ a ts ((s03.trans s4).trans (same_upd na)) ((s03.trans s4).free na) upd_same srt nd mem

end PD

namespace PD
open PySem PySem.Spec PyProof.Rows L2

/-! Phrasedesk: a Desk's filling -/
--# Desk.texts_to_fill
def De.open (fr : List Int) (S : De) (p t : Nat) : Prop := chain fr (S.row (fr.length + 1) p) (up fr t) = Option.none ∧ chain fr (S.row (fr.length + 1) p) t ≠ Option.none
def spToFill (K : PySem.W.Frag) : Sp := fun vs H Q _ => ∃ (d : Addr) (fr : List Int) (S : De) (ls : List Line) (F : Addr → Prop) (p t : Nat), vs = [.ref d, .int p, .int t] ∧ DeK K H d fr S ls F ∧ S.Ok fr ∧ FrOk fr ∧ p < S.n ∧ 0 < t ∧ t ≤ fr.length ∧
  ∀ (H' : Hp) (a : Addr) (ts : List Str), Same H H' → H a = none → H' a = some (.lst (ts.map V.str)) → (S.open fr p t → ts.Nodup ∧ ∀ y, y ∈ ts ↔ y ∈ S.found fr p t S.n) → (¬ S.open fr p t → ts = []) → Q (.ref a) H'
theorem sc_Desk_texts_to_fill : FnScope ["self", "phrase", "tongue"] ["self", "phrase", "tongue"] (defScope s_Desk_texts_to_fill) := ⟨rfl, rfl, rfl, by decide +kernel, rfl, by decide +kernel, by decide +kernel⟩
theorem c_Desk_texts_to_fill {P : Program} {w : World} {K : PySem.W.Frag} {mg : Str → Option Value} {base : Heap} (T : Tx K mg) : C8.Met P w K mg base 6 (He.ga K "Desk") "texts_to_fill" (spToFill K) [] := by
  refine metD T.F_Desk_texts_to_fill T.k_Desk T.m_Desk_texts_to_fill (fun _ _ _ _ _ _ us hl => match us, hl with | [_, _, _], _ => rfl) sc_Desk_texts_to_fill (fun vs H Q E h => ?_) (fun cdv A outer s H vs Q E hr h => ?_)
  · obtain ⟨d, fr, S, ls, F, p, t, rfl, _⟩ := h
    rfl
  · obtain ⟨d, fr, S, ls, F, p, t, rfl, hD, ok, fo, hp, t0, t1, q⟩ := h
    refine ⟨_, (pss_cons (ps_if (pt_not (pt_val (C8.pe_c (c_is_broken T) hr (by decide) rfl (pa_cons (pe_fld (pe_fld (pv 0) (by rfl)) (by rfl)) (pa_cons (C8.pe_mt (c_Past_cells T) hr (by decide) (pe_fld (pv 0) (by rfl)) (pa_cons (pv 1) pa_nil)) (pa_cons (pv 2) pa_nil))))))
      (pss_one (ps_ret (pe_lst pa_nil)))
      pss_nil)
    (pss_cons (ps_if (pt_not (pt_val (C8.pe_mt (c_Desk_is_fresh T) hr (by decide) (pv 0) (pa_cons (pv 1) (pa_cons (C8.pe_c (c_put_from T) hr (by decide) rfl (pa_cons (pe_fld (pe_fld (pv 0) (by rfl)) (by rfl)) (pa_cons (pv 2) pa_nil))) pa_nil)))))
      (pss_one (ps_ret (pe_lst pa_nil)))
      pss_nil)
    (pss_one (ps_ret (C8.pe_mt (c_Desk_likes T) hr (by decide) (pv 0) (pa_cons (pv 1) (pa_cons (pv 2) pa_nil))))))), ?_⟩
    obtain ⟨B, hB, hF, h3⟩ := id hD
    obtain ⟨x, ex, x0, xl, xu⟩ := fo.at t0 t1
    subst xu
    have hu := up_lt fo t0 t1
    have cs := chain_step (row := S.row (fr.length + 1) p) fo t0 t1
    refine ⟨_, rfl, d, _, _, _, _, rfl, hB.obj, T.k_Desk, T.n_Desk_past, df_past _ _, B.p, _, _, _, _, rfl, hB.past.raw.obj, T.k_Past, T.n_Past_froms, pf_froms _ _, _, rfl, d, _, _, _, _, rfl, hB.obj, T.k_Desk, T.n_Desk_past, df_past _ _, B.p, _, _, rfl, hB.past.raw.obj, rfl, _, rfl, B.p, fr, S, B.A, p, rfl, hB.past, ok.num, fo, hp, fun H1 r s1 nr hr1 => ?_⟩
    have hB1 : DeskAt H1 (He.ga K "Desk") (He.ga K "Past") d fr S ls B := hB.keep (fun x o _ e => s1 _ _ e) (fun _ _ e => s1 _ _ e)
    refine ⟨_, rfl, B.A.f, fr, r, _, t, rfl, hB1.past.raw.frm, fo, hr1, ok.row hp, t0, t1, brk fr (S.row (fr.length + 1) p) t, rfl, ?_⟩
    cases hb : brk fr (S.row (fr.length + 1) p) t with
    | false =>
      rw [hb, if_neg (by decide)] at cs
      refine iteT ⟨Nat.zero_le _, fun a na => q _ a [] (s1.trans (same_upd na)) (s1.free na) upd_same (fun z => ?_) (fun _ => rfl)⟩
      exfalso
      apply z.2
      rw [cs, z.1]
      rfl
    | true =>
      rw [hb, if_pos rfl] at cs
      refine iteF ⟨_, rfl, d, _, _, rfl, hB1.obj, rfl, _, rfl, _, rfl, d, _, _, _, _, rfl, hB1.obj, T.k_Desk, T.n_Desk_past, df_past _ _, B.p, _, _, _, _, rfl, hB1.past.raw.obj, T.k_Past, T.n_Past_froms, pf_froms _ _, _, rfl, B.A.f, fr, t, _, rfl, hB1.past.raw.frm, t0, ex, d, fr, S, ls, F, p, up fr t, rfl, hD.same s1, ok, fo, hp, by omega, fun H2 s2 => ⟨_, rfl, ?_⟩⟩
      have s02 := s1.trans s2
      cases hc : chain fr (S.row (fr.length + 1) p) (up fr t) with
      | some c =>
        refine iteT ⟨Nat.zero_le _, fun a na => q _ a [] (s02.trans (same_upd na)) (s02.free na) upd_same (fun z => ?_) (fun _ => rfl)⟩
        exfalso
        rw [z.1] at hc
        cases hc
      | none =>
        refine iteF ⟨_, rfl, d, _, _, rfl, s2 _ _ hB1.obj, rfl, _, rfl, _, rfl, d, fr, S, ls, F, p, t, rfl, (hD.same s1).same s2, ok, fo, hp, t0, t1, fun H3 a ts s3 na ha srt nd mem => ?_⟩
        exact q H3 a ts (s02.trans s3) (s02.free na) ha (fun _ => ⟨nd, mem⟩) (fun z => absurd ⟨hc, by rw [cs]; exact fun y => nomatch y⟩ z)
--# Desk.put_like
def spPutLike (K : PySem.W.Frag) : Sp := fun vs H Q _ => ∃ (d : Addr) (fr : List Int) (S : De) (ls : List Line) (F : Addr → Prop) (p t : Nat) (x : Str), vs = [.ref d, .int p, .int t, .str x] ∧ DeK K H d fr S ls F ∧ FrOk fr ∧ 0 < t ∧ S.May fr (.put p t x (S.now p (up fr t)) (S.now p t)) ∧ S.puts.length < 5000 ∧ ls.length < 5000 ∧
  Goes (He.ga K "Desk") (He.ga K "Past") d fr H F (S.lay p t x (S.now p (up fr t))) (ls ++ [.put p t x (S.now p (up fr t)) (S.now p t) (S.puts.length : Int)]) (Q .non)
theorem sc_Desk_put_like : FnScope ["self", "phrase", "tongue", "text", "seen"] ["self", "phrase", "tongue", "text"] (defScope s_Desk_put_like) := ⟨rfl, rfl, rfl, by decide +kernel, rfl, by decide +kernel, by decide +kernel⟩
theorem c_Desk_put_like {P : Program} {w : World} {K : PySem.W.Frag} {mg : Str → Option Value} {base : Heap} (T : Tx K mg) : C8.Met P w K mg base 7 (He.ga K "Desk") "put_like" (spPutLike K) [] := by
  refine metD T.F_Desk_put_like T.k_Desk T.m_Desk_put_like (fun _ _ _ _ _ _ us hl => match us, hl with | [_, _, _, _], _ => rfl) sc_Desk_put_like (fun vs H Q E h => ?_) (fun cdv A outer s H vs Q E hr h => ?_)
  · obtain ⟨d, fr, S, ls, F, p, t, x, rfl, _⟩ := h
    rfl
  · obtain ⟨d, fr, S, ls, F, p, t, x, rfl, hD, fo, t0, may, fw, lw, q⟩ := h
    refine ⟨_, (pss_cons (ps_set (i := 4) sc_Desk_put_like.nd rfl (Or.inl rfl) (C8.pe_mt (c_Past_standing T) hr (by decide) (pe_fld (pv 0) (by rfl)) (pa_cons (pv 1) (pa_cons (C8.pe_c (c_put_from T) hr (by decide) rfl (pa_cons (pe_fld (pe_fld (pv 0) (by rfl)) (by rfl)) (pa_cons (pv 2) pa_nil))) pa_nil))))
    (pss_one (ps_expr (C8.pe_mt (c_Desk_put T) hr (by decide) (pv 0) (pa_cons (pv 1) (pa_cons (pv 2) (pa_cons (pv 3) (pa_cons (pv 4) (pa_cons (C8.pe_mt (c_Past_standing T) hr (by decide) (pe_fld (pv 0) (by rfl)) (pa_cons (pv 1) (pa_cons (pv 2) pa_nil))) pa_nil))))))))), ?_⟩
    obtain ⟨hp, ht, tx, eo, sn⟩ := id may
    obtain ⟨B, hB, hF, h3⟩ := id hD
    obtain ⟨xx, ex, x0, xl, xu⟩ := fo.at t0 ht
    subst xu
    have hu := up_lt fo t0 ht
    refine ⟨_, rfl, d, _, _, _, _, rfl, hB.obj, T.k_Desk, T.n_Desk_past, df_past _ _, B.p, _, _, rfl, hB.past.raw.obj, rfl, _, rfl, _, rfl, d, _, _, _, _, rfl, hB.obj, T.k_Desk, T.n_Desk_past, df_past _ _, B.p, _, _, _, _, rfl, hB.past.raw.obj, T.k_Past, T.n_Past_froms, pf_froms _ _, _, rfl, B.A.f, fr, t, _, rfl, hB.past.raw.frm, t0, ex, B.p, fr, S, B.A, p, up fr t, rfl, hB.past, hp, by omega, fun H1 s1 => ?_⟩
    have hB1 : DeskAt H1 (He.ga K "Desk") (He.ga K "Past") d fr S ls B := hB.keep (fun x o _ e => s1 _ _ e) (fun _ _ e => s1 _ _ e)
    refine ⟨_, rfl, d, _, _, rfl, hB1.obj, rfl, _, rfl, _, rfl, _, rfl, _, rfl, _, rfl, d, _, _, _, _, rfl, hB1.obj, T.k_Desk, T.n_Desk_past, df_past _ _, B.p, _, _, rfl, hB1.past.raw.obj, rfl, _, rfl, _, rfl, B.p, fr, S, B.A, p, t, rfl, hB1.past, hp, ht, fun H2 s2 => ?_⟩
    refine ⟨d, fr, S, ls, F, p, t, x, _, _, rfl, (hD.same s1).same s2, fo, may, fw, lw, fun H3 F3 d3 o3 f3 => ?_⟩
    exact q H3 F3 d3 ((only_same (s1.trans s2)).trans o3) fun y z => (f3 y z).imp id fun w => (s1.trans s2).free w
--# Desk.fill
def spFill (K : PySem.W.Frag) : Sp := fun vs H Q _ => ∃ (d : Addr) (fr : List Int) (S : De) (ls : List Line) (F : Addr → Prop) (t : Nat), vs = [.ref d, .int t] ∧ DeK K H d fr S ls F ∧ S.Ok fr ∧ FrOk fr ∧ 0 < t ∧ t ≤ fr.length ∧ S.puts.length ≤ 4000 ∧ ls.length ≤ 4000 ∧
  ∀ a : Addr, H a = none → ∀ (H' : Hp) (F' : Addr → Prop), Went (He.ga K "Desk") (He.ga K "Past") d fr H F (S.fillTo fr t S.n).1 (ls ++ (S.fillTo fr t S.n).2.2) H' F' → LsAt H' a (S.fillTo fr t S.n).2.1 → ¬ F' a → Q (.ref a) H'
theorem sc_Desk_fill : FnScope ["self", "tongue", "phrases", "filled", "phrase", "texts"] ["self", "tongue"] (defScope s_Desk_fill) := ⟨rfl, rfl, rfl, by decide +kernel, rfl, by decide +kernel, by decide +kernel⟩
theorem c_Desk_fill {P : Program} {w : World} {K : PySem.W.Frag} {mg : Str → Option Value} {base : Heap} (T : Tx K mg) : C8.Met P w K mg base 8 (He.ga K "Desk") "fill" (spFill K) [] := by
  refine metD T.F_Desk_fill T.k_Desk T.m_Desk_fill (fun _ _ _ _ _ _ us hl => match us, hl with | [_, _], _ => rfl) sc_Desk_fill (fun vs H Q E h => ?_) (fun cdv A outer s H vs Q E hr h => ?_)
  · obtain ⟨d, fr, S, ls, F, t, rfl, _⟩ := h
    rfl
  · obtain ⟨d, fr, S, ls, F, t, rfl, hD, ok, fo, t0, t1, fw, lw, q⟩ := h
    refine ⟨_, (pss_cons (ps_expr (C8.pe_mt (c_Desk_check_other_tongue T) hr (by decide) (pv 0) (pa_cons (pv 1) pa_nil)))
    (pss_cons (ps_set (i := 2) sc_Desk_fill.nd rfl (Or.inl rfl) (pe_listRg rfl (by rfl) T.f_list (prg_1 (by rfl) T.f_range (pe_fld (pe_fld (pv 0) (by rfl)) (by rfl)))))
    (pss_cons (ps_set (i := 3) sc_Desk_fill.nd rfl (Or.inl rfl) (pe_lst pa_nil))
    (pss_cons (ps_for PassesOwn.never rfl (pi_list (pv 2)) (pg_name (i := 4) sc_Desk_fill.nd rfl (Or.inl rfl))
      (pss_cons (ps_set (i := 5) sc_Desk_fill.nd rfl (Or.inl rfl) (C8.pe_mt (c_Desk_texts_to_fill T) hr (by decide) (pv 0) (pa_cons (pv 4) (pa_cons (pv 1) pa_nil))))
      (pss_one (ps_if (pt_cmpR op_eq (pe_callB call_len_seq (by rfl) T.f_len (by decide +kernel) (pa_cons (pv 5) pa_nil)) pe_int (nomark _))
        (pss_cons (ps_expr (C8.pe_mt (c_Desk_put_like T) hr (by decide) (pv 0) (pa_cons (pv 4) (pa_cons (pv 1) (pa_cons (pe_ix ix_list (pv 5) pe_int (fun _ _ => rfl)) pa_nil)))))
        (pss_one (ps_expr (pe_bm PySem.F.plainAttrs_list PySem.F.slot_list_append PySem.F.type_list_append mt_append (pv 3) (pa_cons (pv 4) pa_nil)))))
        pss_nil))))
    (pss_one (ps_ret (pv 3))))))), ?_⟩
    obtain ⟨B, hB, hF, h3⟩ := id hD
    have n6 := ok.six
    refine ⟨_, rfl, d, _, _, rfl, hB.obj, rfl, _, rfl, d, fr, S, ls, F, t, rfl, hD, t0, t1, ?_⟩
    refine ⟨_, rfl, d, _, _, _, _, rfl, hB.obj, T.k_Desk, T.n_Desk_past, df_past _ _, B.p, _, _, _, _, rfl, hB.past.raw.obj, T.k_Past, T.n_Past_phrases, pf_phrases _ _, _, rfl, RgOk.of_le (by omega) (by omega) (by omega) (by omega), fun P1 nP => ?_⟩
    have s1 : Same H (upd H P1 (.lst (rgV 0 (S.n : Int)))) := same_upd nP
    have hP1 : (upd H P1 (.lst (rgV 0 (S.n : Int)))) P1 = some (.lst (rgV 0 (S.n : Int))) := upd_same
    generalize upd H P1 (.lst (rgV 0 (S.n : Int))) = H1 at s1 hP1 ⊢
    refine ⟨Nat.zero_le _, fun L1 nL => ?_⟩
    have s2 := s1.trans (same_upd nL (o := .lst []))
    have hP2 := same_upd nL (o := .lst []) _ _ hP1
    have hL2 : LsAt (upd H1 L1 (.lst [])) L1 [] := upd_same
    have nLP : P1 ≠ L1 := ne_of_none hP1 nL
    have nL0 : H L1 = none := s1.free nL
    generalize upd H1 L1 (.lst []) = H2 at s2 hP2 hL2 ⊢
    have out0 : ∀ {y : Addr}, H y = none → ¬ F y := fun ny z => by
      obtain ⟨o, e, _⟩ := h3 _ z
      rw [ny] at e
      cases e
    refine ⟨_, rfl, P1, rfl, ⟨_, SqL.of hP2⟩, ?_⟩
    refine for_it (walk_list (K := K) (a := P1) (xs := rgV 0 (S.n : Int))) (fun i σ H4 => ∃ (v4 v5 : Option V) (F4 : Addr → Prop), σ = [some (.ref d), some (.int t), some (.ref P1), some (.ref L1), v4, v5] ∧ Went (He.ga K "Desk") (He.ga K "Past") d fr H F (S.fillTo fr t i).1 (ls ++ (S.fillTo fr t i).2.2) H4 F4 ∧ LsAt H4 L1 (S.fillTo fr t i).2.1 ∧ H4 P1 = some (.lst (rgV 0 (S.n : Int))) ∧ ¬ F4 L1 ∧ ¬ F4 P1)
      ⟨none, none, F, rfl, ?_, hL2, hP2, out0 nL0, out0 nP⟩ (fun i σ H4 _ ⟨_, _, _, _, _, _, z, _⟩ => SqL.of z) ?_ ?_
    · show Went _ _ d fr H F S (ls ++ []) H2 F
      rw [List.append_nil]
      exact (Went.refl hD).same s2
    · rintro i v σ H4 H5 hi ⟨v4, v5, F4, rfl, w4, hL4, hP4, nF4, nFP⟩ ⟨rfl, ev⟩
      have hin : i < S.n := by
        rw [rgV_length] at hi
        omega
      have evi : v = .int (i : Int) := by
        unfold rgV at ev
        rw [List.getElem?_map, List.getElem?_range (by omega)] at ev
        have := (Option.some.inj ev).symm
        rw [this]
        show V.int (0 + (i : Int)) = _
        rw [Int.zero_add]
      subst evi
      have fk := fillTo_ok ok fo t0 t1 i (by omega)
      rw [De.fillTo_succ]
      generalize S.fillTo fr t i = A at w4 hL4 fk ⊢
      have An := fk.n
      obtain ⟨B4, hB4, _, _⟩ := id w4.desk
      refine ⟨_, rfl, d, _, _, rfl, hB4.obj, rfl, _, rfl, _, rfl, d, fr, A.1, _, F4, i, t, rfl, w4.desk, fk.ok, fo, by omega, t0, t1, fun H6 a ts s6 na ha opn shut => ?_⟩
      have w6 := w4.same s6
      have no : De.fillOne fr t A i = A → ∃ (v4' v5' : Option V) (F4 : Addr → Prop), [some (V.ref d), some (V.int t), some (V.ref P1), some (V.ref L1), some (V.int i), some (V.ref a)] = [some (.ref d), some (.int t), some (.ref P1), some (.ref L1), v4', v5'] ∧ Went (He.ga K "Desk") (He.ga K "Past") d fr H F (De.fillOne fr t A i).1 (ls ++ (De.fillOne fr t A i).2.2) H6 F4 ∧ LsAt H6 L1 (De.fillOne fr t A i).2.1 ∧ H6 P1 = some (.lst (rgV 0 (S.n : Int))) ∧ ¬ F4 L1 ∧ ¬ F4 P1 := by
        intro e
        rw [e]
        exact ⟨_, _, F4, rfl, w6, hL4.same s6, s6 _ _ hP4, nF4, nFP⟩
      refine ⟨_, rfl, a, _, rfl, .inl (SqL.of ha), rfl, decide (ts.length = 1), ?_, ?_⟩
      · rw [List.length_map]
        exact congrArg V.bl (dec_nat (y := 1))
      by_cases op : A.1.open fr i t
      case neg =>
        rw [shut op]
        refine iteF (no (De.fill_no ?_))
        by_cases c : chain fr (A.1.row (fr.length + 1) i) (up fr t) = none
        · exact .inr (.inl (Classical.not_not.mp fun z => op ⟨c, z⟩))
        · exact .inl c
      obtain ⟨nd, mem⟩ := opn op
      rcases (only_list nd mem).symm with ⟨e3, e4⟩ | ⟨x, rfl, e3⟩
      · rw [decide_eq_false e3]
        exact iteF (no (De.fill_no (.inr (.inr e4))))
      have up1 := up_lt fo t0 t1
      obtain ⟨kk0, ek⟩ := fk.ok.above fo (p := i) (by omega) (by omega) op.1
      have tx : TxOk x := fk.ok.found fo t0 t1 ((onlyOf_some e3 x).mpr rfl)
      have may : A.1.May fr (.put i t x (A.1.now i (up fr t)) (A.1.now i t)) := by
        refine ⟨by omega, t1, tx, rfl, fun z => by omega, fun _ => ?_⟩
        obtain ⟨j, ej, v, e1, e2, e3⟩ := fk.ok.seen_now ek
        exact ⟨j, by rw [ek, ej], v, e1, e2, e3⟩
      have l1 := fk.len
      have l2 := fk.l
      have l3 := fk.f
      rw [De.fill_yes op.1 op.2 e3]
      refine iteT ⟨_, rfl, d, _, _, rfl, s6 _ _ hB4.obj, rfl, _, rfl, _, rfl, _, rfl, a, _, _, _, rfl, rfl, SqL.of ha, atI_nat (j := 0) rfl, d, fr, A.1, _, F4, i, t, x, rfl, w6.desk, fo, t0, may, by omega, by rw [List.length_append]; omega, fun H7 F7 d7 o7 f7 => ?_⟩
      have w7 : Went (He.ga K "Desk") (He.ga K "Past") d fr H F (A.1.lay i t x (A.1.now i (up fr t))) (ls ++ (A.2.2 ++ [.put i t x (A.1.now i (up fr t)) (A.1.now i t) (A.1.puts.length : Int)])) H7 F7 := by
        rw [← List.append_assoc]
        exact w6.trans ⟨d7, o7, f7⟩
      have nF7 : ∀ {y : Addr} {o : HO}, ¬ F4 y → H6 y = some o → ¬ F7 y := fun n e z => (f7 _ z).elim n fun w => by rw [e] at w; cases w
      have hL7 : LsAt H7 L1 A.2.1 := o7.out _ _ nF4 (hL4.same s6)
      have hP7 := o7.out _ _ nFP (s6 _ _ hP4)
      refine ⟨_, rfl, .inl ⟨rfl, _, SqL.of hL7⟩, _, rfl, L1, _, _, rfl, rfl, hL7, ?_, ?_⟩
      · rw [List.length_map]
        exact small1000 (by omega)
      refine ⟨_, _, F7, rfl, w7.chg nL0 (nF7 nF4 (hL4.same s6)) hL7 (fun _ z => nomatch z), ?_, ?_, nF7 nF4 (hL4.same s6), nF7 nFP (s6 _ _ hP4)⟩
      · unfold LsAt
        rw [upd_same, List.map_append]
        rfl
      · rw [upd_ne nLP]
        exact hP7
    · rintro σ H4 ⟨v4, v5, F4, rfl, w4, hL4, hP4, nF4, nFP⟩
      rw [rgV_length, show ((S.n : Int) - 0).toNat = S.n by omega] at w4 hL4
      exact ⟨_, rfl, q L1 nL0 H4 F4 w4 hL4 nF4⟩

end PD

namespace PD
open PySem PySem.Spec PyProof.Rows L2

/-! Phrasedesk: deeds done at a desk, a desk behind some deeds -/
--# _law_do
def ResD (H H' : Hp) (F : Addr → Prop) (v : V) : Res → Prop
  | .num k => v = .int k
  | .many l => ∃ a, v = .ref a ∧ H a = none ∧ LsAt H' a l ∧ ¬ F a
def spDo (K : PySem.W.Frag) : Sp := fun vs H Q _ => ∃ (d : Addr) (fr : List Int) (S : De) (ls : List Line) (F : Addr → Prop) (q : Addr) (dd : Deed), vs = [.ref d, .ref q] ∧ DeK K H d fr S ls F ∧ S.Ok fr ∧ FrOk fr ∧ H q = some (.tup dd.vals) ∧ S.May fr dd ∧ S.puts.length ≤ 4000 ∧ ls.length ≤ 4000 ∧
  ∀ (H' : Hp) (F' : Addr → Prop) (v : V), Went (He.ga K "Desk") (He.ga K "Past") d fr H F (S.come fr dd).1 (ls ++ (S.come fr dd).2.2) H' F' → ResD H H' F' v (S.come fr dd).2.1 → Q v H'
theorem sc_law_do : FnScope ["_law_desk", "_law_deed_here"] ["_law_desk", "_law_deed_here"] (defScope s_law_do) := ⟨rfl, rfl, rfl, by decide +kernel, rfl, by decide +kernel, by decide +kernel⟩
theorem c_law_do {P : Program} {w : World} {K : PySem.W.Frag} {mg : Str → Option Value} {base : Heap} (T : Tx K mg) : C8.Cal P w K mg base 9 "_law_do" (spDo K) [] := by
  refine calD T.F_law_do T.g_law_do (fun _ _ _ _ _ _ us hl => match us, hl with | [_, _], _ => rfl) sc_law_do (fun vs H Q E h => ?_) (fun cdv A outer s H vs Q E hr h => ?_)
  · obtain ⟨d, fr, S, ls, F, q, dd, rfl, _⟩ := h
    rfl
  · obtain ⟨d, fr, S, ls, F, q, dd, rfl, hD, ok, fo, hq, may, fw, lw, k⟩ := h
    obtain ⟨B, hB, hF, h3⟩ := id hD
    cases dd with
    | phrase x =>
      refine ⟨_, (pss_cons (ps_if (pt_cmpR op_eq (pe_ix ix_tup (pv 1) pe_int (fun _ _ => rfl)) pe_str (nomark _))
      (pss_one (ps_ret (C8.pe_mt (c_Desk_phrase T) hr (by decide) (pv 0) (pa_cons (pe_ix ix_tup (pv 1) pe_int (fun _ _ => rfl)) pa_nil))))
      pss_nil)
    (pss_cons (ps_if (pt_cmpR op_eq (pe_ix ix_tup (pv 1) pe_int (fun _ _ => rfl)) pe_str (nomark _))
      (pss_one (ps_ret (C8.pe_mt (c_Desk_put T) hr (by decide) (pv 0) (pa_cons (pe_ix ix_tup (pv 1) pe_int (fun _ _ => rfl)) (pa_cons (pe_ix ix_tup (pv 1) pe_int (fun _ _ => rfl)) (pa_cons (pe_ix ix_tup (pv 1) pe_int (fun _ _ => rfl)) (pa_cons (pe_ix ix_tup (pv 1) pe_int (fun _ _ => rfl)) (pa_cons (pe_ix ix_tup (pv 1) pe_int (fun _ _ => rfl)) pa_nil))))))))
      pss_nil)
    (pss_one (ps_ret (pe_ifExp (pt_cmpR op_eq (pe_ix ix_tup (pv 1) pe_int (fun _ _ => rfl)) pe_str (nomark _)) (C8.pe_mt (c_Desk_back T) hr (by decide) (pv 0) (pa_cons (pe_ix ix_tup (pv 1) pe_int (fun _ _ => rfl)) (pa_cons (pe_ix ix_tup (pv 1) pe_int (fun _ _ => rfl)) pa_nil))) (C8.pe_mt (c_Desk_fill T) hr (by decide) (pv 0) (pa_cons (pe_ix ix_tup (pv 1) pe_int (fun _ _ => rfl)) pa_nil))))))), ?_⟩
      refine ⟨_, rfl, q, _, _, _, rfl, rfl, SqT.of hq, atI_nat (j := 0) rfl, rfl, true, rfl, iteT ⟨_, rfl, d, _, _, rfl, hB.obj, rfl, _, rfl, q, _, _, _, rfl, rfl, SqT.of hq, atI_nat (j := 1) rfl, d, fr, S, ls, F, x, rfl, hD, fo, ok, may, by omega, by omega, fun H1 F1 d1 o1 f1 => ?_⟩⟩
      exact k H1 F1 _ ⟨d1, o1, f1⟩ rfl
    | put p t x s0 ov =>
      refine ⟨_, (pss_cons (ps_if (pt_cmpR op_eq (pe_ix ix_tup (pv 1) pe_int (fun _ _ => rfl)) pe_str (nomark _))
      (pss_one (ps_ret (C8.pe_mt (c_Desk_phrase T) hr (by decide) (pv 0) (pa_cons (pe_ix ix_tup (pv 1) pe_int (fun _ _ => rfl)) pa_nil))))
      pss_nil)
    (pss_cons (ps_if (pt_cmpR op_eq (pe_ix ix_tup (pv 1) pe_int (fun _ _ => rfl)) pe_str (nomark _))
      (pss_one (ps_ret (C8.pe_mt (c_Desk_put T) hr (by decide) (pv 0) (pa_cons (pe_ix ix_tup (pv 1) pe_int (fun _ _ => rfl)) (pa_cons (pe_ix ix_tup (pv 1) pe_int (fun _ _ => rfl)) (pa_cons (pe_ix ix_tup (pv 1) pe_int (fun _ _ => rfl)) (pa_cons (pe_ix ix_tup (pv 1) pe_int (fun _ _ => rfl)) (pa_cons (pe_ix ix_tup (pv 1) pe_int (fun _ _ => rfl)) pa_nil))))))))
      pss_nil)
    (pss_one (ps_ret (pe_ifExp (pt_cmpR op_eq (pe_ix ix_tup (pv 1) pe_int (fun _ _ => rfl)) pe_str (nomark _)) (C8.pe_mt (c_Desk_back T) hr (by decide) (pv 0) (pa_cons (pe_ix ix_tup (pv 1) pe_int (fun _ _ => rfl)) (pa_cons (pe_ix ix_tup (pv 1) pe_int (fun _ _ => rfl)) pa_nil))) (C8.pe_mt (c_Desk_fill T) hr (by decide) (pv 0) (pa_cons (pe_ix ix_tup (pv 1) pe_int (fun _ _ => rfl)) pa_nil))))))), ?_⟩
      refine ⟨_, rfl, q, _, _, _, rfl, rfl, SqT.of hq, atI_nat (j := 0) rfl, rfl, false, rfl, iteF ⟨_, rfl, q, _, _, _, rfl, rfl, SqT.of hq, atI_nat (j := 0) rfl, rfl, true, rfl, iteT ?_⟩⟩
      refine ⟨_, rfl, d, _, _, rfl, hB.obj, rfl, _, rfl, q, _, _, _, rfl, rfl, SqT.of hq, atI_nat (j := 1) rfl, _, rfl, q, _, _, _, rfl, rfl, SqT.of hq, atI_nat (j := 2) rfl, _, rfl, q, _, _, _, rfl, rfl, SqT.of hq, atI_nat (j := 3) rfl, _, rfl, q, _, _, _, rfl, rfl, SqT.of hq, atI_nat (j := 4) rfl, _, rfl, q, _, _, _, rfl, rfl, SqT.of hq, atI_nat (j := 5) rfl, d, fr, S, ls, F, p, t, x, s0, ov, rfl, hD, fo, may, by omega, by omega, fun H1 F1 d1 o1 f1 => ?_⟩
      exact k H1 F1 _ ⟨d1, o1, f1⟩ rfl
    | back p t =>
      refine ⟨_, (pss_cons (ps_if (pt_cmpR op_eq (pe_ix ix_tup (pv 1) pe_int (fun _ _ => rfl)) pe_str (nomark _))
      (pss_one (ps_ret (C8.pe_mt (c_Desk_phrase T) hr (by decide) (pv 0) (pa_cons (pe_ix ix_tup (pv 1) pe_int (fun _ _ => rfl)) pa_nil))))
      pss_nil)
    (pss_cons (ps_if (pt_cmpR op_eq (pe_ix ix_tup (pv 1) pe_int (fun _ _ => rfl)) pe_str (nomark _))
      (pss_one (ps_ret (C8.pe_mt (c_Desk_put T) hr (by decide) (pv 0) (pa_cons (pe_ix ix_tup (pv 1) pe_int (fun _ _ => rfl)) (pa_cons (pe_ix ix_tup (pv 1) pe_int (fun _ _ => rfl)) (pa_cons (pe_ix ix_tup (pv 1) pe_int (fun _ _ => rfl)) (pa_cons (pe_ix ix_tup (pv 1) pe_int (fun _ _ => rfl)) (pa_cons (pe_ix ix_tup (pv 1) pe_int (fun _ _ => rfl)) pa_nil))))))))
      pss_nil)
    (pss_one (ps_ret (pe_ifExp (pt_cmpR op_eq (pe_ix ix_tup (pv 1) pe_int (fun _ _ => rfl)) pe_str (nomark _)) (C8.pe_mt (c_Desk_back T) hr (by decide) (pv 0) (pa_cons (pe_ix ix_tup (pv 1) pe_int (fun _ _ => rfl)) (pa_cons (pe_ix ix_tup (pv 1) pe_int (fun _ _ => rfl)) pa_nil))) (C8.pe_mt (c_Desk_fill T) hr (by decide) (pv 0) (pa_cons (pe_ix ix_tup (pv 1) pe_int (fun _ _ => rfl)) pa_nil))))))), ?_⟩
      refine ⟨_, rfl, q, _, _, _, rfl, rfl, SqT.of hq, atI_nat (j := 0) rfl, rfl, false, rfl, iteF ⟨_, rfl, q, _, _, _, rfl, rfl, SqT.of hq, atI_nat (j := 0) rfl, rfl, false, rfl, iteF ⟨_, rfl, q, _, _, _, rfl, rfl, SqT.of hq, atI_nat (j := 0) rfl, rfl, true, rfl, iteT ?_⟩⟩⟩
      obtain ⟨j, ej⟩ : ∃ j, S.now p t = some j := by
        cases e : S.now p t with
        | none =>
          have := List.getLast?_eq_none_iff.mp e
          have hl := may.2.2
          rw [this] at hl
          exact absurd hl (Nat.not_lt_zero _)
        | some j => exact ⟨j, rfl⟩
      have ec : S.come fr (.back p t) = (S.off p t, .num j, [.back p t j]) := by
        show (S.off p t, Res.num ((S.now p t).getD 0), [Line.back p t ((S.now p t).getD 0)]) = _
        rw [ej]
        rfl
      rw [ec] at k
      refine ⟨_, rfl, d, _, _, rfl, hB.obj, rfl, _, rfl, q, _, _, _, rfl, rfl, SqT.of hq, atI_nat (j := 1) rfl, _, rfl, q, _, _, _, rfl, rfl, SqT.of hq, atI_nat (j := 2) rfl, d, fr, S, ls, F, p, t, j, rfl, hD, may, ej, by omega, fun H1 F1 d1 o1 f1 => ?_⟩
      exact k H1 F1 _ ⟨d1, o1, f1⟩ rfl
    | fill t =>
      refine ⟨_, (pss_cons (ps_if (pt_cmpR op_eq (pe_ix ix_tup (pv 1) pe_int (fun _ _ => rfl)) pe_str (nomark _))
      (pss_one (ps_ret (C8.pe_mt (c_Desk_phrase T) hr (by decide) (pv 0) (pa_cons (pe_ix ix_tup (pv 1) pe_int (fun _ _ => rfl)) pa_nil))))
      pss_nil)
    (pss_cons (ps_if (pt_cmpR op_eq (pe_ix ix_tup (pv 1) pe_int (fun _ _ => rfl)) pe_str (nomark _))
      (pss_one (ps_ret (C8.pe_mt (c_Desk_put T) hr (by decide) (pv 0) (pa_cons (pe_ix ix_tup (pv 1) pe_int (fun _ _ => rfl)) (pa_cons (pe_ix ix_tup (pv 1) pe_int (fun _ _ => rfl)) (pa_cons (pe_ix ix_tup (pv 1) pe_int (fun _ _ => rfl)) (pa_cons (pe_ix ix_tup (pv 1) pe_int (fun _ _ => rfl)) (pa_cons (pe_ix ix_tup (pv 1) pe_int (fun _ _ => rfl)) pa_nil))))))))
      pss_nil)
    (pss_one (ps_ret (pe_ifExp (pt_cmpR op_eq (pe_ix ix_tup (pv 1) pe_int (fun _ _ => rfl)) pe_str (nomark _)) (C8.pe_mt (c_Desk_back T) hr (by decide) (pv 0) (pa_cons (pe_ix ix_tup (pv 1) pe_int (fun _ _ => rfl)) (pa_cons (pe_ix ix_tup (pv 1) pe_int (fun _ _ => rfl)) pa_nil))) (C8.pe_mt (c_Desk_fill T) hr (by decide) (pv 0) (pa_cons (pe_ix ix_tup (pv 1) pe_int (fun _ _ => rfl)) pa_nil))))))), ?_⟩
      refine ⟨_, rfl, q, _, _, _, rfl, rfl, SqT.of hq, atI_nat (j := 0) rfl, rfl, false, rfl, iteF ⟨_, rfl, q, _, _, _, rfl, rfl, SqT.of hq, atI_nat (j := 0) rfl, rfl, false, rfl, iteF ⟨_, rfl, q, _, _, _, rfl, rfl, SqT.of hq, atI_nat (j := 0) rfl, rfl, false, rfl, iteF ?_⟩⟩⟩
      refine ⟨_, rfl, d, _, _, rfl, hB.obj, rfl, _, rfl, q, _, _, _, rfl, rfl, SqT.of hq, atI_nat (j := 1) rfl, d, fr, S, ls, F, t, rfl, hD, ok, fo, may.1, may.2, by omega, by omega, fun a na H1 F1 w1 hL nF => ?_⟩
      exact k H1 F1 _ w1 ⟨a, rfl, na, hL, nF⟩
--# _law_played
/-- a desk and the law's own state, side by side; all is new since H -/
structure Both (K : PySem.W.Frag) (H H' : Hp) (d o l e tl : Addr) (fr : List Int) (S : De) (ls : List Line) (F : Addr → Prop) : Prop where
  same : Same H H'
  desk : DeK K H' d fr S ls F
  here : Here H' o l e S
  ok : S.Ok fr
  tale : LnAt H' tl ls
  new : ∀ x, F x ∨ x = d ∨ x = o ∨ x = l ∨ x = e ∨ x = tl → H x = none
  no : ¬ F o
  nl : ¬ F l
  ne : ¬ F e
  nt : ¬ F tl
  av : Avoid H' e F
  tll : tl ≠ l
  txs : ∀ n ∈ ls, n.Tx
theorem Both.next {K : PySem.W.Frag} {H H' H2 : Hp} {d o l e tl : Addr} {fr : List Int} {S : De} {ls : List Line} {F : Addr → Prop} (b : Both K H H' d o l e tl fr S ls F) (s : Same H' H2) : Both K H H2 d o l e tl fr S ls F := by
  obtain ⟨kvs, hk, _⟩ := b.here.lie
  exact ⟨b.same.trans s, b.desk.same s, b.here.same s, b.ok, b.tale.same s, b.new, b.no, b.nl, b.ne, b.nt, b.av.eq (by rw [s _ _ hk, hk]), b.tll, b.txs⟩
/-- behind a deed at the desk -/
theorem Both.went {K : PySem.W.Frag} {H H' H2 : Hp} {d o l e tl : Addr} {fr : List Int} {S S' : De} {ls ls' : List Line} {F F' : Addr → Prop} (b : Both K H H' d o l e tl fr S ls F) (w : Went (He.ga K "Desk") (He.ga K "Past") d fr H' F S' ls' H2 F') :
    Same H H2 ∧ Here H2 o l e S ∧ LnAt H2 tl ls ∧ (∀ x, F' x → H x = none) ∧ ¬ F' o ∧ ¬ F' l ∧ ¬ F' e ∧ ¬ F' tl ∧ Avoid H2 e F' := by
  obtain ⟨kvs, hk, _, hL⟩ := b.here.lie
  obtain ⟨vs, hv, _⟩ := b.here.puts
  obtain ⟨ts, ht, hta⟩ := b.tale
  have nF : ∀ {y : Addr} {u : HO}, ¬ F y → H' y = some u → ¬ F' y := fun n e z => (w.foot _ z).elim n fun w => by rw [e] at w; cases w
  have nt : ∀ a xs, F a → H' a ≠ some (.tup xs) := fun a xs fa z => by
    obtain ⟨B, _, _, h3⟩ := b.desk
    obtain ⟨u, eu, nu⟩ := h3 a fa
    rw [z] at eu
    exact nu _ (Option.some.inj eu).symm
  refine ⟨fun x u ex => w.only.out x u (fun z => ?_) (b.same _ _ ex), b.here.frame (R := F) (fun a x n ea => w.only.out a x n ea) b.no b.nl b.ne nt b.av, ⟨ts, w.only.out _ _ b.nt ht, hta.mono fun _ _ ⟨q, z, u⟩ => ⟨q, z, b.desk.tup w.only u⟩⟩, fun x z => ?_, nF b.no b.here.top, nF b.nl hv, nF b.ne hk, nF b.nt ht, ?_⟩
  · rw [b.new x (.inl z)] at ex
    cases ex
  · rcases w.foot x z with y | y
    · exact b.new x (.inl y)
    · exact b.same.free y
  · intro kvs' ek p t a ev fa
    rw [w.only.out _ _ b.ne hk] at ek
    cases (HO.dT.inj (Option.some.inj ek))
    have y := hL p t
    rw [ev] at y
    obtain ⟨c, e1, _, e2⟩ := y
    cases e1
    exact nF (b.av kvs hk p t a ev) e2 fa
def spPlayed (K : PySem.W.Frag) : Sp := fun vs H Q _ => ∃ (a : Addr) (ns : List Int) (b m : Int) (f : Addr) (fr : List Int), vs = [.ref a, .int b, .ref f, .int m] ∧ SqL K H a (ns.map V.int) ∧ 0 ≤ b ∧ b ≤ 90 ∧ 0 ≤ m ∧ m ≤ 100 ∧ LsAt H f fr ∧ FrOk fr ∧
  ∀ (H' : Hp) (r d o l e tl : Addr) (S : De) (ls : List Line) (F : Addr → Prop), Both K H H' d o l e tl fr S ls F → H r = none → H' r = some (.tup [.ref d, .ref o, .ref tl]) → S.puts.length ≤ 6 * m.toNat → ls.length ≤ 6 * m.toNat → (0 < m → 0 < ls.length) → Q (.ref r) H'
theorem come_len {fr : List Int} {S : De} {dd : Deed} (h : S.Ok fr) (fo : FrOk fr) (m : S.May fr dd) : (S.come fr dd).2.2.length ≤ 6 := by
  cases dd with
  | phrase x => exact Nat.le_of_lt_succ (by show 1 < 7; decide)
  | put p t x s o => exact Nat.le_of_lt_succ (by show 1 < 7; decide)
  | back p t => exact Nat.le_of_lt_succ (by show 1 < 7; decide)
  | fill t =>
    have z := (fillTo_ok h fo m.1 m.2 S.n (Nat.le_refl _)).l
    have := h.six
    exact Nat.le_trans z this
theorem sc_law_played : FnScope ["_law_script", "_law_by", "_law_froms_here", "_law_many", "_law_handed", "_law_desk", "_law_here", "_law_tale", "_law_at", "_law_deed_here"] ["_law_script", "_law_by", "_law_froms_here", "_law_many"] (defScope s_law_played) := ⟨rfl, rfl, rfl, by decide +kernel, rfl, by decide +kernel, by decide +kernel⟩
theorem c_law_played {P : Program} {w : World} {K : PySem.W.Frag} {mg : Str → Option Value} {base : Heap} (T : Tx K mg) : C8.Cal P w K mg base 10 "_law_played" (spPlayed K) [] := by
  refine calD T.F_law_played T.g_law_played (fun _ _ _ _ _ _ us hl => match us, hl with | [_, _, _, _], _ => rfl) sc_law_played (fun vs H Q E h => ?_) (fun cdv A outer s H vs Q E hr h => ?_)
  · obtain ⟨a, ns, b, m, f, fr, rfl, _⟩ := h
    rfl
  · obtain ⟨a, ns, b, m, f, fr, rfl, hS, b0, b1, m0, m1, hf, fo, k⟩ := h
    refine ⟨_, (pss_cons (ps_set (i := 4) sc_law_played.nd rfl (Or.inl rfl) (pe_callTy call_list_of (by rfl) T.f_list (by decide +kernel) (pa_cons (pv 2) pa_nil)))
    (pss_cons (ps_par3 (i := 5) (j := 6) (l := 7) (by rfl) sc_law_played.nd rfl rfl rfl (by decide) (by decide) (by decide) rfl rfl rfl (pa_cons (C8.pe_mk (c_Desk_init T) hr (by decide) rfl (pa_cons (pv 4) pa_nil)) (pa_cons (pe_c0 (c_law_new T) hr (by decide) rfl) (pa_cons (pe_lst pa_nil) pa_nil))) (by rfl))
    (pss_cons (ps_expr (pe_bm PySem.F.plainAttrs_list PySem.F.slot_list_append PySem.F.type_list_append mt_append (pv 4) (pa_cons pe_int pa_nil)))
    (pss_cons (ps_asg pe_int (pg_sub (pv 4) pe_int set_list))
    (pss_cons (ps_for PassesOwn.never rfl (pi_range1 (by rfl) T.f_range (pa_cons (pv 3) pa_nil)) (pg_name (i := 8) sc_law_played.nd rfl (Or.inl rfl))
      (pss_cons (ps_set (i := 9) sc_law_played.nd rfl (Or.inl rfl) (C8.pe_c (c_law_deed T) hr (by decide) rfl (pa_cons (pv 0) (pa_cons (pv 1) (pa_cons (pv 8) (pa_cons (pv 6) (pa_cons (pv 2) pa_nil)))))))
      (pss_cons (ps_expr (C8.pe_c (c_law_do T) hr (by decide) rfl (pa_cons (pv 5) (pa_cons (pv 9) pa_nil))))
      (pss_one (ps_set (i := 7) sc_law_played.nd rfl (Or.inl rfl) (pe_op op_cat (pv 7) (pe_ix ix_tup (C8.pe_c (c_law_come T) hr (by decide) rfl (pa_cons (pv 6) (pa_cons (pv 2) (pa_cons (pv 9) pa_nil)))) pe_int (fun _ _ => rfl))))))))
    (pss_one (ps_ret (pe_tup (pa_cons (pv 5) (pa_cons (pv 6) (pa_cons (pv 7) pa_nil))))))))))), ?_⟩
    refine ⟨_, rfl, f, _, rfl, .inl (SqL.of hf), fun h nh => ?_⟩
    have s1 : Same H (upd H h (.lst (fr.map V.int))) := same_upd nh
    have hh1 : LsAt (upd H h (.lst (fr.map V.int))) h fr := upd_same
    generalize upd H h (.lst (fr.map V.int)) = H1 at s1 hh1 ⊢
    refine ⟨_, rfl, fun d dd_ nd ndd dne => ⟨d, dd_, h, fr, rfl, upd_same, ?_, fo, fun H2 F dk k2 f2 => ⟨rfl, ?_⟩⟩⟩
    · unfold LsAt
      rw [upd_ne (ne_of_none hh1 nd), upd_ne (ne_of_none hh1 ndd)]
      exact hh1
    have k12 : Same H1 H2 := fun x o e => k2 x o (ne_of_none e nd) (by rw [upd_ne (ne_of_none e nd), upd_ne (ne_of_none e ndd)]; exact e)
    have f12 : ∀ x, F x → H1 x = none := by
      intro x fx
      rcases f2 x fx with z | z
      · rw [z]
        exact nd
      · cases e : H1 x with
        | none => rfl
        | some u =>
          rw [upd_ne (ne_of_none e nd), upd_ne (ne_of_none e ndd), e] at z
          cases z
    refine ⟨rfl, fun H3 o l e s3 no nl ne_ hh3 => ⟨Nat.zero_le _, fun tl ntl => ?_⟩⟩
    have nF3 : ∀ {y : Addr}, H2 y = none → ¬ F y := fun ny z => by
      obtain ⟨u, eu⟩ := dk.there z
      rw [ny] at eu
      cases eu
    have s13 := k12.trans s3
    have s14 := s13.trans (same_upd ntl (o := .lst []))
    have tl2 : H2 tl = none := s3.free ntl
    have s4 : Same H3 (upd H3 tl (.lst [])) := same_upd ntl
    have b4 : Both K H (upd H3 tl (.lst [])) d o l e tl fr De.none [] F := by
      obtain ⟨vs3, hv3, _⟩ := hh3.puts
      refine ⟨s1.trans s14, (dk.same s3).same s4, hh3.same s4, De.none_ok, ⟨[], upd_same, All2.nil⟩, ?_, nF3 no, nF3 nl, nF3 ne_, nF3 tl2, ?_, Ne.symm (ne_of_none hv3 ntl), fun n hn => (nomatch hn)⟩
      · rintro x (z | z | z | z | z | z)
        · exact s1.free (f12 x z)
        · rw [z]
          exact s1.free nd
        · rw [z]
          exact s1.free (k12.free no)
        · rw [z]
          exact s1.free (k12.free nl)
        · rw [z]
          exact s1.free (k12.free ne_)
        · rw [z]
          exact s1.free (k12.free tl2)
      · intro kvs ek p t c ev fc
        have hl := (hh3.same s4).lie
        obtain ⟨kvs', e1, e2, e3⟩ := hl
        rw [ek] at e1
        cases (HO.dT.inj (Option.some.inj e1))
        have := List.length_eq_zero_iff.mp (Nat.le_zero.mp e2)
        rw [this] at ev
        cases ev
    have hh4 : LsAt (upd H3 tl (.lst [])) h fr := hh1.same s14
    have nFh : ¬ F h := fun z => by
      have := f12 h z
      rw [LsAt, this] at hh1
      cases hh1
    have htl : h ≠ tl := ne_of_none (hh1.same k12) tl2
    have hnl : h ≠ l := ne_of_none (hh1.same k12) nl
    generalize upd H3 tl (.lst []) = H4 at s14 b4 hh4 ⊢
    -- what was handed in is changed
    have chg : ∀ {H5 : Hp} {u : HO} {vs : List V}, Both K H H5 d o l e tl fr De.none [] F → H5 h = some (.lst vs) → Both K H (upd H5 h u) d o l e tl fr De.none [] F := by
      intro H5 u vs b5 h5
      have av : Avoid H5 e (· = h) := by
        intro kvs ek p t c ev fc
        obtain ⟨kvs', e1, e2, e3⟩ := b5.here.lie
        rw [ek] at e1
        cases (HO.dT.inj (Option.some.inj e1))
        have := List.length_eq_zero_iff.mp (Nat.le_zero.mp e2)
        rw [this] at ev
        cases ev
      obtain ⟨z1, z2⟩ := b5.here.chg (x := u) hnl h5 av
      refine ⟨Same.chg b5.same nh, b5.desk.keep (fun x v fx ex => ?_) (fun q xs eq => ?_), z1, b5.ok, b5.tale.upd (Ne.symm htl) h5, b5.new, b5.no, b5.nl, b5.ne, b5.nt, z2 _ b5.av, b5.tll, b5.txs⟩
      · rw [upd_ne (fun z => nFh (by rw [← z]; exact fx))]
        exact ex
      · rw [upd_ne (ne_of eq h5 (fun z => nomatch z))]
        exact eq
    refine ⟨_, _, _, rfl, ?_⟩
    refine ⟨_, rfl, .inl ⟨rfl, _, SqL.of hh4⟩, h, _, _, rfl, rfl, hh4, ?_, ?_⟩
    · rw [List.length_map]
      have := fo.hi
      exact small1000 (by omega)
    have b5 := chg (u := .lst (fr.map V.int ++ [V.int 0])) b4 hh4
    have hh5 : (upd H4 h (.lst (fr.map V.int ++ [V.int 0]))) h = some (.lst (fr.map V.int ++ [V.int 0])) := upd_same
    generalize upd H4 h (.lst (fr.map V.int ++ [V.int 0])) = H5 at b5 hh5 ⊢
    have h0 : 0 < fr.length := fo.lo
    obtain ⟨y0, r0, ey⟩ : ∃ y0 r0, fr.map V.int ++ [V.int 0] = y0 :: r0 := by
      cases fr with
      | nil => exact absurd h0 (by decide)
      | cons z r => exact ⟨_, _, rfl⟩
    rw [ey] at hh5
    refine ⟨_, rfl, h, _, _, 0, rfl, rfl, hh5, by unfold ixN; rw [if_pos (by decide), if_pos (by rw [List.length_cons]; omega)]; rfl, ?_⟩
    have b6 := chg (u := .lst ((y0 :: r0).set 0 (V.int 1))) b5 hh5
    generalize upd H5 h (.lst ((y0 :: r0).set 0 (V.int 1))) = H6 at b6 ⊢
    refine ⟨_, rfl, _, rfl, by omega, by omega, ?_⟩
    refine for_range (lo := 0) (n := m.toNat) (fun i σ G => ∃ (v8 v9 : Option V) (tl : Addr) (S : De) (ls : List Line) (F : Addr → Prop), σ = [some (.ref a), some (.int b), some (.ref f), some (.int m), some (.ref h), some (.ref d), some (.ref o), some (.ref tl), v8, v9] ∧ Both K H G d o l e tl fr S ls F ∧ S.puts.length ≤ 6 * i ∧ ls.length ≤ 6 * i ∧ (i = 0 → S.n = 0) ∧ (0 < i → 0 < ls.length))
      ⟨none, none, tl, De.none, [], F, rfl, b6, Nat.zero_le _, Nat.zero_le _, fun _ => rfl, fun z => absurd z (by decide)⟩ ?_ ?_
    · rintro i σ G hi ⟨v8, v9, tl, S, ls, F, rfl, bg, pl, ll, z0, z1⟩
      rw [show (0 + (i : Int)) = (i : Int) from Int.zero_add _]
      have i100 : i < 100 := by omega
      refine ⟨_, rfl, _, rfl, _, rfl, _, rfl, _, rfl, a, ns, b, (i : Int), o, l, e, S, f, fr, rfl, bg.same.seq hS, b0, by omega, by omega, by omega, bg.here, bg.ok, hf.same bg.same, fo, fun G1 q dd t1 nq hq may fst => ?_⟩
      have b1 := bg.next t1
      refine ⟨_, rfl, _, rfl, d, fr, S, ls, F, q, dd, rfl, b1.desk, b1.ok, fo, hq, may, by omega, by omega, fun G2 F2 v w2 _ => ?_⟩
      obtain ⟨s2, hh2, lt2, nw2, no2, nl2, ne2, nt2, av2⟩ := b1.went w2
      have hq2 := b1.desk.tup w2.only hq
      have nfl : f ≠ l := fun z => by
        have := bg.new l (.inr (.inr (.inr (.inl rfl))))
        rw [← z] at this
        rw [LsAt, this] at hf
        cases hf
      refine ⟨_, rfl, _, rfl, _, rfl, _, rfl, o, l, e, S, f, fr, q, dd, rfl, hh2, b1.ok, by omega, hf.same s2, nfl, fo, hq2, may, fun G3 r v3 lx of3 st3 hh3 nr hr rv nlx hlx => ?_⟩
      refine ⟨r, _, _, _, rfl, rfl, SqT.of hr, atI_nat (j := 1) rfl, ?_⟩
      obtain ⟨cok, clen⟩ := b1.ok.come fo may
      have s3 : Same H G3 := fun x u ex => of3 x u (fun z => by rw [z, bg.new o (.inr (.inr (.inl rfl)))] at ex; cases ex) (fun z => by rw [z, bg.new l (.inr (.inr (.inr (.inl rfl))))] at ex; cases ex) (fun z => by rw [z, bg.new e (.inr (.inr (.inr (.inr (.inl rfl)))))] at ex; cases ex) (s2 x u ex)
      have d3 : DeK K G3 d fr (S.come fr dd).1 (ls ++ (S.come fr dd).2.2) F2 := w2.desk.keep (fun x u fx ex => of3 x u (fun z => no2 (by rw [← z]; exact fx)) (fun z => nl2 (by rw [← z]; exact fx)) (fun z => ne2 (by rw [← z]; exact fx)) ex) (fun c xs ec => of3.tup hh2 ec)
      have lt3 : LnAt G3 tl ls := lt2.off of3 hh2 bg.tll
      have av3 : Avoid G3 e F2 := st3 F2 (fun c fc => w2.desk.there fc) av2
      obtain ⟨ts, hts, ats⟩ := lt3
      obtain ⟨xs, hxs, axs⟩ := hlx
      have cl := come_len b1.ok fo may
      refine ⟨tl, lx, _, _, rfl, rfl, hts, hxs, ?_, fun tn ntn => ?_⟩
      · rw [ats.len, axs.len]
        exact Nat.le_of_lt (small5000 (by omega))
      have s4 : Same G3 (upd G3 tn (.lst (ts ++ xs))) := same_upd ntn
      obtain ⟨vs3, hv3, _⟩ := hh3.puts
      obtain ⟨kvs3, hk3, _⟩ := hh3.lie
      refine ⟨_, _, tn, _, _, F2, rfl, ⟨s3.trans s4, d3.same s4, hh3.same s4, cok, ⟨_, upd_same, (ats.app axs).mono fun _ _ z => z.same s4⟩, ?_, no2, nl2, ne2, fun z => ?_, av3.eq (by rw [s4 _ _ hk3, hk3]), Ne.symm (ne_of_none hv3 ntn), fun n hn => (List.mem_append.mp hn).elim (bg.txs n) (come_tx b1.ok fo may n)⟩, by omega, ?_, fun z => by omega, fun _ => ?_⟩
      · rintro x (z | z | z | z | z | z)
        · exact nw2 x z
        · exact bg.new x (.inr (.inl z))
        · exact bg.new x (.inr (.inr (.inl z)))
        · exact bg.new x (.inr (.inr (.inr (.inl z))))
        · exact bg.new x (.inr (.inr (.inr (.inr (.inl z)))))
        · rw [z]
          exact s3.free ntn
      · obtain ⟨u, eu⟩ := d3.there z
        rw [ntn] at eu
        cases eu
      · rw [List.length_append]
        omega
      · rw [List.length_append]
        by_cases c : i = 0
        · obtain ⟨x, rfl⟩ := fst (z0 c)
          show 0 < ls.length + 1
          omega
        · have := z1 (by omega)
          omega
    · rintro σ G ⟨v8, v9, tl, S, ls, F, rfl, bg, pl, ll, z0, z1⟩
      refine ⟨_, rfl, _, rfl, _, rfl, (by show 3 ≤ sizeLine; decide), fun r nr => ?_⟩
      exact k _ r d o l e tl S ls F (bg.next (same_upd nr)) (bg.same.free nr) upd_same pl ll fun z => z1 (by omega)

end PD

namespace PD
open PySem PySem.Spec PyProof.Rows L2

/-! Phrasedesk: what a Desk tells -/
--# Desk.now
def spNowD (K : PySem.W.Frag) : Sp := fun vs H Q _ => ∃ (d : Addr) (fr : List Int) (S : De) (ls : List Line) (F : Addr → Prop) (p t : Nat), vs = [.ref d, .int p, .int t] ∧ DeK K H d fr S ls F ∧ S.Num ∧ p < S.n ∧ t ≤ fr.length ∧ (S.now p t = none → ∀ H' : Hp, Same H H' → Q .non H') ∧
  ∀ k, S.now p t = some k → ∀ (H' : Hp) (r : Addr), Same H H' → H r = none → H' r = some (.tup [.int k, .str (S.pt k).x]) → Q (.ref r) H'
theorem sc_Desk_now : FnScope ["self", "phrase", "tongue", "number"] ["self", "phrase", "tongue"] (defScope s_Desk_now) := ⟨rfl, rfl, rfl, by decide +kernel, rfl, by decide +kernel, by decide +kernel⟩
theorem c_Desk_now {P : Program} {w : World} {K : PySem.W.Frag} {mg : Str → Option Value} {base : Heap} (T : Tx K mg) : C8.Met P w K mg base 6 (He.ga K "Desk") "now" (spNowD K) [] := by
  refine metD T.F_Desk_now T.k_Desk T.m_Desk_now (fun _ _ _ _ _ _ us hl => match us, hl with | [_, _, _], _ => rfl) sc_Desk_now (fun vs H Q E h => ?_) (fun cdv A outer s H vs Q E hr h => ?_)
  · obtain ⟨d, fr, S, ls, F, p, t, rfl, _⟩ := h
    rfl
  · obtain ⟨d, fr, S, ls, F, p, t, rfl, hD, hN, hp, ht, q0, q1⟩ := h
    refine ⟨_, (pss_cons (ps_expr (C8.pe_mt (c_Desk_check_place T) hr (by decide) (pv 0) (pa_cons (pv 1) (pa_cons (pv 2) pa_nil))))
    (pss_cons (ps_set (i := 3) sc_Desk_now.nd rfl (Or.inl rfl) (C8.pe_mt (c_Past_standing T) hr (by decide) (pe_fld (pv 0) (by rfl)) (pa_cons (pv 1) (pa_cons (pv 2) pa_nil))))
    (pss_one (ps_ret (pe_ifExp (pt_cmpR op_isN (pv 3) pe_non (nomark _)) pe_non (pe_tup (pa_cons (pv 3) (pa_cons (pe_ix ix_list (pe_fld (pe_fld (pv 0) (by rfl)) (by rfl)) (pv 3) (fun _ _ => rfl)) pa_nil)))))))), ?_⟩
    obtain ⟨B, hB, hF, h3⟩ := id hD
    refine ⟨_, rfl, d, _, _, rfl, hB.obj, rfl, _, rfl, _, rfl, d, fr, S, ls, F, p, t, rfl, hD, hp, ht, ?_⟩
    refine ⟨_, rfl, d, _, _, _, _, rfl, hB.obj, T.k_Desk, T.n_Desk_past, df_past _ _, B.p, _, _, rfl, hB.past.raw.obj, rfl, _, rfl, _, rfl, B.p, fr, S, B.A, p, t, rfl, hB.past, hp, ht, fun H1 s1 => ?_⟩
    have hB1 : DeskAt H1 (He.ga K "Desk") (He.ga K "Past") d fr S ls B := hB.keep (fun x o _ e => s1 _ _ e) (fun _ _ e => s1 _ _ e)
    cases en : S.now p t with
    | none => exact ⟨_, rfl, rfl, true, rfl, iteT (q0 en _ s1)⟩
    | some k =>
      obtain ⟨k0, u, eu, _, _⟩ := hN.now en
      refine ⟨_, rfl, rfl, false, rfl, iteF ⟨_, rfl, _, rfl, d, _, _, _, _, rfl, hB1.obj, T.k_Desk, T.n_Desk_past, df_past _ _, B.p, _, _, _, _, rfl, hB1.past.raw.obj, T.k_Past, T.n_Past_texts, pf_texts _ _, _, rfl, B.A.tx, _, _, _, rfl, rfl, SqL.of hB1.past.raw.tx, at_of (j := k.toNat) (by omega) (lookup_at eu), (by show 2 ≤ sizeLine; decide), fun r nr => ?_⟩⟩
      refine q1 k en _ r (s1.trans (same_upd nr)) (s1.free nr) ?_
      rw [upd_same, De.pt_at eu]
      rfl
--# Desk.row
def spRowD (K : PySem.W.Frag) : Sp := fun vs H Q _ => ∃ (d : Addr) (fr : List Int) (S : De) (ls : List Line) (F : Addr → Prop) (p : Nat), vs = [.ref d, .int p] ∧ DeK K H d fr S ls F ∧ S.Num ∧ FrOk fr ∧ p < S.n ∧
  ∀ (H' : Hp) (r : Addr), Same H H' → H r = none → RowAt H' r (S.row (fr.length + 1) p) → Q (.ref r) H'
theorem sc_Desk_row : FnScope ["self", "phrase"] ["self", "phrase"] (defScope s_Desk_row) := ⟨rfl, rfl, rfl, by decide +kernel, rfl, by decide +kernel, by decide +kernel⟩
theorem c_Desk_row {P : Program} {w : World} {K : PySem.W.Frag} {mg : Str → Option Value} {base : Heap} (T : Tx K mg) : C8.Met P w K mg base 5 (He.ga K "Desk") "row" (spRowD K) [] := by
  refine metD T.F_Desk_row T.k_Desk T.m_Desk_row (fun _ _ _ _ _ _ us hl => match us, hl with | [_, _], _ => rfl) sc_Desk_row (fun vs H Q E h => ?_) (fun cdv A outer s H vs Q E hr h => ?_)
  · obtain ⟨d, fr, S, ls, F, p, rfl, _⟩ := h
    rfl
  · obtain ⟨d, fr, S, ls, F, p, rfl, hD, hN, fo, hp, q⟩ := h
    refine ⟨_, (pss_cons (ps_expr (C8.pe_mt (c_Desk_check_phrase T) hr (by decide) (pv 0) (pa_cons (pv 1) pa_nil)))
    (pss_one (ps_ret (C8.pe_mt (c_Past_cells T) hr (by decide) (pe_fld (pv 0) (by rfl)) (pa_cons (pv 1) pa_nil))))), ?_⟩
    obtain ⟨B, hB, hF, h3⟩ := id hD
    refine ⟨_, rfl, d, _, _, rfl, hB.obj, rfl, _, rfl, d, fr, S, ls, F, p, rfl, hD, hp, ?_⟩
    exact ⟨_, rfl, d, _, _, _, _, rfl, hB.obj, T.k_Desk, T.n_Desk_past, df_past _ _, B.p, _, _, rfl, hB.past.raw.obj, rfl, _, rfl, B.p, fr, S, B.A, p, rfl, hB.past, hN, fo, hp, q⟩
--# Desk.tale
def spTaleD (K : PySem.W.Frag) : Sp := fun vs H Q _ => ∃ (d : Addr) (fr : List Int) (S : De) (ls : List Line) (F : Addr → Prop), vs = [.ref d] ∧ DeK K H d fr S ls F ∧ ∀ (H' : Hp) (r : Addr), Same H H' → H r = none → LnAt H' r ls → Q (.ref r) H'
theorem sc_Desk_tale : FnScope ["self"] ["self"] (defScope s_Desk_tale) := ⟨rfl, rfl, rfl, by decide +kernel, rfl, by decide +kernel, by decide +kernel⟩
theorem c_Desk_tale {P : Program} {w : World} {K : PySem.W.Frag} {mg : Str → Option Value} {base : Heap} (T : Tx K mg) : C8.Met P w K mg base 1 (He.ga K "Desk") "tale" (spTaleD K) [] := by
  refine metD T.F_Desk_tale T.k_Desk T.m_Desk_tale (fun _ _ _ _ _ _ us hl => match us, hl with | [_], _ => rfl) sc_Desk_tale (fun vs H Q E h => ?_) (fun cdv A outer s H vs Q E hr h => ?_)
  · obtain ⟨d, fr, S, ls, F, rfl, _⟩ := h
    rfl
  · obtain ⟨d, fr, S, ls, F, rfl, hD, q⟩ := h
    refine ⟨_, (pss_one (ps_ret (pe_callTy call_list_of (by rfl) T.f_list (by decide +kernel) (pa_cons (pe_fld (pv 0) (by rfl)) pa_nil)))), ?_⟩
    obtain ⟨B, hB, hF, h3⟩ := id hD
    obtain ⟨vs, hv, ha⟩ := hB.lines
    refine ⟨_, rfl, d, _, _, _, _, rfl, hB.obj, T.k_Desk, T.n_Desk_lines, df_lines _ _, B.L, _, rfl, .inl (SqL.of hv), fun r nr => ?_⟩
    exact q _ r (same_upd nr) nr ⟨vs, upd_same, ha.mono fun _ _ z => z.same (same_upd nr)⟩
--# Desk.old
def spOldD (K : PySem.W.Frag) : Sp := fun vs H Q _ => ∃ (d : Addr) (fr : List Int) (S : De) (ls : List Line) (F : Addr → Prop), vs = [.ref d] ∧ DeK K H d fr S ls F ∧ S.Ok fr ∧ FrOk fr ∧ ∀ (H' : Hp) (r : Addr), Same H H' → H r = none → PrsAt H' r (S.olds fr) → Q (.ref r) H'
theorem rg_at {lo hi : Int} {i : Nat} {x : V} (h : (rgV lo hi)[i]? = some x) : x = .int (lo + (i : Int)) ∧ i < (hi - lo).toNat := by
  unfold rgV at h
  have hi := (List.getElem?_eq_some_iff.mp h).1
  rw [List.length_map, List.length_range] at hi
  rw [List.getElem?_map, List.getElem?_range hi] at h
  exact ⟨(Option.some.inj h).symm, hi⟩
theorem PrsAt.snoc {H : Hp} {D : Addr} {vs : List V} {l : List Pr} {v : V} {e : Pr} (h : PrsAt H D l) (hv : H D = some (.lst vs)) (he : PrV H v e) : PrsAt (upd H D (.lst (vs ++ [v]))) D (l ++ [e]) := by
  obtain ⟨ws, hw, ha⟩ := h
  rw [hv] at hw
  cases (HO.lst.inj (Option.some.inj hw))
  have keep : ∀ {u : V} {e : Pr}, PrV H u e → PrV (upd H D (.lst (vs ++ [v]))) u e := fun z => z.upd hv (fun _ w => nomatch w)
  exact ⟨_, upd_same, All2.app (ha.mono fun _ _ z => keep z) (All2.cons (keep he) All2.nil)⟩
theorem sc_Desk_old : FnScope ["self", "tongues", "phrases", "phrase", "tongue"] ["self"] (defScope s_Desk_old) := ⟨rfl, rfl, rfl, by decide +kernel, rfl, by decide +kernel, by decide +kernel⟩
theorem c_Desk_old {P : Program} {w : World} {K : PySem.W.Frag} {mg : Str → Option Value} {base : Heap} (T : Tx K mg) : C8.Met P w K mg base 5 (He.ga K "Desk") "old" (spOldD K) [] := by
  refine metD T.F_Desk_old T.k_Desk T.m_Desk_old (fun _ _ _ _ _ _ us hl => match us, hl with | [_], _ => rfl) sc_Desk_old (fun vs H Q E h => ?_) (fun cdv A outer s H vs Q E hr h => ?_)
  · obtain ⟨d, fr, S, ls, F, rfl, _⟩ := h
    rfl
  · obtain ⟨d, fr, S, ls, F, rfl, hD, ok, fo, q⟩ := h
    refine ⟨_, (pss_cons (ps_set (i := 1) sc_Desk_old.nd rfl (Or.inr rfl) (pe_listRg rfl (by rfl) T.f_list (prg_2 (by rfl) T.f_range pe_int (pe_op op_add (pe_callB call_len_seq (by rfl) T.f_len (by decide +kernel) (pa_cons (pe_fld (pe_fld (pv 0) (by rfl)) (by rfl)) pa_nil)) pe_int))))
    (pss_cons (ps_set (i := 2) sc_Desk_old.nd rfl (Or.inl rfl) (pe_listRg rfl (by rfl) T.f_list (prg_1 (by rfl) T.f_range (pe_fld (pe_fld (pv 0) (by rfl)) (by rfl)))))
    (pss_one (ps_ret (pe_lc2 (own := [("phrase", 3), ("tongue", 4)]) (vs1 := [4]) (g := gName 3) (g1 := gName 4) (tt := tYes) (by rfl) sc_Desk_old.nd (pi_list (pv 2)) (blkOk_by (own := [("phrase", 3), ("tongue", 4)]) (N := ["self", "tongues", "phrases", "phrase", "tongue"]) (sc := defScope s_Desk_old) (by decide +kernel)) (by decide) (fun _ _ _ _ _ => (pg_name (i := 3) sc_Desk_old.nd rfl (Or.inl rfl))) (fun _ _ _ _ _ => pts_nil) (fun _ _ _ _ _ => (show PI _ _ _ (iList K (tVar 1)) from pi_list (pv 1))) (fun _ _ _ _ _ => (pg_name (i := 4) sc_Desk_old.nd rfl (Or.inl rfl))) (fun _ _ _ _ _ => (pts_one (pt_not (pt_val (C8.pe_mt (c_Desk_is_fresh T) hr (by decide) (pv 0) (pa_cons (pv 3) (pa_cons (pv 4) pa_nil))))))) (fun _ _ _ _ _ => (pe_tup (pa_cons (pv 3) (pa_cons (pv 4) pa_nil))))))))), ?_⟩
    obtain ⟨B, hB, hF, h3⟩ := id hD
    have n6 := ok.six
    have hi7 := fo.hi
    refine ⟨_, rfl, d, _, _, _, _, rfl, hB.obj, T.k_Desk, T.n_Desk_past, df_past _ _, B.p, _, _, _, _, rfl, hB.past.raw.obj, T.k_Past, T.n_Past_froms, pf_froms _ _, B.A.f, _, rfl, .inl (SqL.of hB.past.raw.frm), _, _, rfl, rfl, _, _, rfl, rfl, RgOk.of_le (by omega) (by rw [List.length_map]; omega) (by omega) (by omega), fun b nb => ?_⟩
    have s1 : Same H (upd H b (.lst (rgV 1 ((fr.map V.int).length + 1)))) := same_upd nb
    have hb1 : (upd H b (.lst (rgV 1 ((fr.map V.int).length + 1)))) b = some (.lst (rgV 1 ((fr.map V.int).length + 1))) := upd_same
    generalize upd H b (.lst (rgV 1 ((fr.map V.int).length + 1))) = H1 at s1 hb1 ⊢
    have hB1 : DeskAt H1 (He.ga K "Desk") (He.ga K "Past") d fr S ls B := hB.keep (fun x o _ e => s1 _ _ e) (fun _ _ e => s1 _ _ e)
    refine ⟨_, rfl, d, _, _, _, _, rfl, hB1.obj, T.k_Desk, T.n_Desk_past, df_past _ _, B.p, _, _, _, _, rfl, hB1.past.raw.obj, T.k_Past, T.n_Past_phrases, pf_phrases _ _, _, rfl, RgOk.of_le (by omega) (by omega) (by omega) (by omega), fun a na => ?_⟩
    have s2 : Same H1 (upd H1 a (.lst (rgV 0 (S.n : Int)))) := same_upd na
    have ha2 : (upd H1 a (.lst (rgV 0 (S.n : Int)))) a = some (.lst (rgV 0 (S.n : Int))) := upd_same
    generalize upd H1 a (.lst (rgV 0 (S.n : Int))) = H2 at s2 ha2 ⊢
    have hb2 := s2 _ _ hb1
    have s02 := s1.trans s2
    have hD2 := hD.same s02
    dsimp only [gName, tRet]
    refine lc2_two (i0 := 3) (j0 := 4) (K := K) (a := a) (b := b) (xs := rgV 0 (S.n : Int)) (ys := rgV 1 ((fr.map V.int).length + 1)) (fun D i j G => Same H2 G ∧ PrsAt G D (S.oldUp fr i j)) ?_ ?_ ?_ ?_ ?_ ?_ ?_ ?_ ?_
    · exact fun R hR => ⟨_, rfl, a, rfl, ⟨_, SqL.of ha2⟩, hR⟩
    · exact fun x G R hG hR => ⟨_, rfl, b, rfl, ⟨_, hG⟩, hR⟩
    · exact fun x => rfl
    · exact fun x y => rfl
    · intro D nD
      refine ⟨same_upd nD, [], upd_same, ?_⟩
      exact All2.nil
    · rintro D i j G ⟨sG, _⟩
      exact ⟨SqL.of (sG _ _ ha2), SqL.of (sG _ _ hb2)⟩
    · rintro D i G ⟨sG, hG⟩
      refine ⟨sG, ?_⟩
      rw [rgV_length, List.length_map, show ((fr.length : Int) + 1 - 1).toNat = fr.length by omega, ← De.oldTo_succ] at hG
      have e : S.oldUp fr (i + 1) 0 = S.oldTo fr (i + 1) := by
        unfold De.oldUp
        rw [List.range_zero, List.filter_nil, List.map_nil, List.append_nil]
      rw [e]
      exact hG
    · rintro D nD i j x y G ex ey ⟨sG, hG⟩
      obtain ⟨rfl, hi⟩ := rg_at ex
      obtain ⟨rfl, hj⟩ := rg_at ey
      rw [List.length_map] at hj
      have hi' : i < S.n := by omega
      have hj' : j + 1 ≤ fr.length := by omega
      obtain ⟨B2, hB2, _, _⟩ := id (hD2.same sG)
      have e1 : (0 : Int) + (i : Int) = (i : Int) := Int.zero_add _
      have e2 : (1 : Int) + (j : Int) = ((j + 1 : Nat) : Int) := by omega
      rw [e1, e2]
      refine ⟨_, rfl, d, _, _, rfl, hB2.obj, rfl, _, rfl, _, rfl, d, fr, S, ls, F, i, j + 1, rfl, hD2.same sG, ok, fo, hi', hj', fun G1 sG1 => ⟨_, rfl, ?_⟩⟩
      obtain ⟨ws, hws, aws⟩ := hG
      have wlen : ws.length < sizeLine := by
        rw [aws.len]
        have h1 := De.oldUp_len (fr := fr) (S := S) (i := i) (j := j)
        have h2 : fr.length * i ≤ 7 * 6 := Nat.mul_le_mul hi7 (by omega)
        exact small1000 (by omega)
      cases ec : (chain fr (S.row (fr.length + 1) i) (j + 1)) with
      | none =>
        refine iteF ⟨sG.trans sG1, ?_⟩
        rw [De.oldUp_succ, ec, Option.isSome_none, if_neg (by decide), List.append_nil]
        exact ⟨ws, sG1 _ _ hws, aws.mono fun _ _ z => z.same sG1⟩
      | some c =>
        refine iteT ⟨_, rfl, _, rfl, (by show 2 ≤ sizeLine; decide), fun t nt => ?_⟩
        have sG2 := sG1.trans (same_upd nt (o := .tup [V.int (i : Int), V.int ((j + 1 : Nat) : Int)]))
        refine ⟨ws, sG2 _ _ hws, wlen, Same.chg (sG.trans sG2) nD, ?_⟩
        rw [De.oldUp_succ, ec, Option.isSome_some, if_pos rfl]
        exact PrsAt.snoc (l := S.oldUp fr i j) ⟨ws, sG2 _ _ hws, aws.mono fun _ _ z => z.same sG2⟩ (sG2 _ _ hws) ⟨t, rfl, upd_same⟩
    · rintro D nD G ⟨sG, hG⟩
      rw [rgV_length, show ((S.n : Int) - 0).toNat = S.n by omega] at hG
      have e : S.oldUp fr S.n 0 = S.olds fr := by
        unfold De.oldUp
        rw [List.range_zero, List.filter_nil, List.map_nil, List.append_nil]
      rw [e] at hG
      exact q G D (s02.trans sG) (s02.free nD) hG

end PD

namespace PD
open PySem PySem.Spec PyProof.Rows L2

/-! Phrasedesk, law_k01: all ever put at a Desk; what is written out -/
--# Desk.all_put
def spAllPutD (K : PySem.W.Frag) : Sp := fun vs H Q _ => ∃ (d : Addr) (fr : List Int) (S : De) (ls : List Line) (F : Addr → Prop) (p t : Nat), vs = [.ref d, .int p, .int t] ∧ DeK K H d fr S ls F ∧ p < S.n ∧ t ≤ fr.length ∧
  ∀ (H' : Hp) (r : Addr), Same H H' → H r = none → EvAt H' r (S.ever p t) → Q (.ref r) H'
theorem ever_at {S : De} {p t i : Nat} {e : Int × Str} (h : (S.ever p t)[i]? = some e) : ∃ j : Nat, e.1 = (j : Int) ∧ ∃ u, S.puts[j]? = some u ∧ u.x = e.2 := by
  obtain ⟨j, u, h1, h2, h3, h4⟩ := evG_mem.mp (List.mem_of_getElem? h)
  refine ⟨j, ?_, u, h1, ?_⟩
  · rw [h4, Nat.zero_add]
  · rw [h4]
theorem sc_Desk_all_put : FnScope ["self", "phrase", "tongue", "number"] ["self", "phrase", "tongue"] (defScope s_Desk_all_put) := ⟨rfl, rfl, rfl, by decide +kernel, rfl, by decide +kernel, by decide +kernel⟩
theorem c_Desk_all_put {P : Program} {w : World} {K : PySem.W.Frag} {mg : Str → Option Value} {base : Heap} (T : Tx K mg) : C8.Met P w K mg base 6 (He.ga K "Desk") "all_put" (spAllPutD K) [] := by
  refine metD T.F_Desk_all_put T.k_Desk T.m_Desk_all_put (fun _ _ _ _ _ _ us hl => match us, hl with | [_, _, _], _ => rfl) sc_Desk_all_put (fun vs H Q E h => ?_) (fun cdv A outer s H vs Q E hr h => ?_)
  · obtain ⟨d, fr, S, ls, F, p, t, rfl, _⟩ := h
    rfl
  · obtain ⟨d, fr, S, ls, F, p, t, rfl, hD, hp, ht, q⟩ := h
    refine ⟨_, (pss_cons (ps_expr (C8.pe_mt (c_Desk_check_place T) hr (by decide) (pv 0) (pa_cons (pv 1) (pa_cons (pv 2) pa_nil))))
    (pss_one (ps_ret (pe_lock (pe_lc (own := [("number", 3)]) (g := gName 3) (tt := tYes) (by rfl) sc_Desk_all_put.nd (pi_keys (pe_dget (hu_of hr) (pe_fld (pe_fld (pv 0) (by rfl)) (by rfl)) (pe_tup (pa_cons (pv 1) (pa_cons (pv 2) pa_nil))) (fun _ _ => rfl))) (blkOk_by (own := [("number", 3)]) (N := ["self", "phrase", "tongue", "number"]) (sc := defScope s_Desk_all_put) (by decide +kernel)) (fun _ _ _ _ _ => (pg_name (i := 3) sc_Desk_all_put.nd rfl (Or.inl rfl))) (fun _ _ _ _ _ => pts_nil) (fun _ _ _ _ _ => (pe_tup (pa_cons (pv 3) (pa_cons (pe_ix (show IxR _ (rIxL K) from ix_list) (pe_fldK (K := K) (by rfl) (pe_fldK (K := K) (by rfl) (pv 0) (by rfl)) (by rfl)) (pv 3) (fun _ _ => rfl)) pa_nil))))))))), ?_⟩
    obtain ⟨B, hB, hF, h3⟩ := id hD
    refine ⟨_, rfl, d, _, _, rfl, hB.obj, rfl, _, rfl, _, rfl, d, fr, S, ls, F, p, t, rfl, hD, hp, ht, ?_⟩
    obtain ⟨e1, e2⟩ := hB.past.raw.evs p t ⟨hp, ht⟩
    have few := hB.past.few
    have el := evG_len (p := p) (t := t) (l := S.puts) (k := 0)
    refine ⟨B.A.eA p t, _, e2, trivial, fun od => ?_⟩
    have fz : (upd H (B.A.eA p t) (.frz od (.dK (eK S p t)))) (B.A.eA p t) = some (.frz od (.dK (eK S p t))) := upd_same
    have oth : ∀ {x : Addr} {o : HO}, x ≠ B.A.eA p t → H x = some o → (upd H (B.A.eA p t) (.frz od (.dK (eK S p t)))) x = some o := fun n e => by rw [upd_ne n]; exact e
    have n1 := oth (ne_of hB.obj e2 (fun z => nomatch z)) hB.obj
    have n2 := oth (ne_of hB.past.raw.obj e2 (fun z => nomatch z)) hB.past.raw.obj
    have n3 := oth (ne_of hB.past.raw.ev e2 (fun z => nomatch z)) hB.past.raw.ev
    have n4 := oth (ne_of hB.past.raw.tx e2 (fun z => nomatch z)) hB.past.raw.tx
    have back : ∀ {G : Hp}, Same (upd H (B.A.eA p t) (.frz od (.dK (eK S p t)))) G → Same H (upd G (B.A.eA p t) (.dK (eK S p t))) := by
      intro G sG x o ex
      by_cases c : x = B.A.eA p t
      · rw [c, upd_same, ← e2, ← c, ex]
      · rw [upd_ne c]
        exact sG _ _ (oth c ex)
    have nw : ∀ {x : Addr}, (upd H (B.A.eA p t) (.frz od (.dK (eK S p t)))) x = none → x ≠ B.A.eA p t ∧ H x = none := by
      intro x nx
      have c : x ≠ B.A.eA p t := fun z => by rw [z, upd_same] at nx; cases nx
      rw [upd_ne c] at nx
      exact ⟨c, nx⟩
    generalize upd H (B.A.eA p t) (.frz od (.dK (eK S p t))) = H0 at fz oth n1 n2 n3 n4 back nw ⊢
    refine ⟨_, rfl, d, _, _, _, _, rfl, n1, T.k_Desk, T.n_Desk_past, df_past _ _, B.p, _, _, _, _, rfl, n2, T.k_Past, T.n_Past_ever, pf_ever _ _, _, rfl, _, rfl, (by show 2 ≤ sizeLine; decide), fun b nb => ?_⟩
    have sb : Same H0 (upd H0 b (.tup [V.int (p : Int), V.int (t : Int)])) := same_upd nb
    have hb : (upd H0 b (.tup [V.int (p : Int), V.int (t : Int)])) b = some (.tup ((ty p t).map kV)) := upd_same
    generalize upd H0 b (.tup [V.int (p : Int), V.int (t : Int)]) = H1 at sb hb ⊢
    refine ⟨B.A.ev, V.ref (B.A.eA p t), rfl, e1 ▸ DGet.t (sb _ _ n3) hb, B.A.eA p t, od, rfl, .inl ⟨_, sb _ _ fz, fun D nD => ?_⟩⟩
    obtain ⟨nDe, nD0⟩ := nw (sb.free nD)
    refine lc_it (walk_keys (d := B.A.eA p t) (o := od) (kvs := eK S p t)) (fun i G => Same H1 G ∧ EvAt G D ((S.ever p t).take i)) ⟨same_upd nD, [], upd_same, All2.nil⟩ (fun i G _ z => z.1 _ _ (sb _ _ fz)) ?_ ?_
    · rintro i v G G' hi ⟨sG, hG⟩ ⟨rfl, ky, vy, ek, rfl⟩
      unfold eK at ek
      rw [List.getElem?_map] at ek
      obtain ⟨e, ee, ek'⟩ := Option.map_eq_some_iff.mp ek
      cases ek'
      obtain ⟨j, ej, u, eu, ux⟩ := ever_at ee
      obtain ⟨ws, hws, aws⟩ := id hG
      have sG0 := sb.trans sG
      refine ⟨rfl, _, rfl, _, rfl, d, _, _, _, _, rfl, sG0 _ _ n1, T.k_Desk, T.n_Desk_past, df_past _ _, B.p, _, _, _, _, rfl, sG0 _ _ n2, T.k_Past, T.n_Past_texts, pf_texts _ _, _, rfl, B.A.tx, _, _, _, rfl, rfl, SqL.of (sG0 _ _ n4), at_of (j := j) ej (lookup_at eu), (by show 2 ≤ sizeLine; decide), fun c nc => ⟨ws, same_upd nc _ _ hws, ?_, Same.chg (sG.trans (same_upd nc)) nD, ?_⟩⟩
      · rw [aws.len, List.length_take]
        have := (List.getElem?_eq_some_iff.mp ee).1
        unfold De.ever at this
        exact small5000 (by omega)
      · rw [List.take_add_one, ee]
        exact EvAt.snoc (hG.same (same_upd nc)) (same_upd nc _ _ hws) ⟨c, rfl, by rw [upd_same, ux]; rfl⟩
    · rintro G ⟨sG, hG⟩
      have kl : (eK S p t).length = (S.ever p t).length := by
        unfold eK
        rw [List.length_map]
      rw [kl, List.take_length] at hG
      refine ⟨(sb.trans sG) _ _ fz, q _ D (back (sb.trans sG)) nD0 ?_⟩
      obtain ⟨ws, hws, aws⟩ := hG
      have fzG := (sb.trans sG) _ _ fz
      refine ⟨ws, by rw [upd_ne nDe]; exact hws, aws.mono ?_⟩
      rintro v e ⟨c, e1', e2'⟩
      exact ⟨c, e1', by rw [upd_ne (ne_of e2' fzG (fun z => nomatch z))]; exact e2'⟩

end PD

namespace PD
open PySem PySem.Spec PyProof.Rows L2

/-! Phrasedesk: puts that are refused, nothing to be taken back -/
--# Desk.put over
def spPutOver (K : PySem.W.Frag) : Sp := fun vs H _ E => ∃ (d : Addr) (fr : List Int) (S : De) (ls : List Line) (F : Addr → Prop) (p t : Nat) (x : Str) (s o : Option Int), vs = [.ref d, .int p, .int t, .str x, oV s, oV o] ∧ DeK K H d fr S ls F ∧ FrOk fr ∧ p < S.n ∧ t ≤ fr.length ∧ TxOk x ∧ S.Seen fr p t s ∧ o ≠ S.now p t ∧
  ∀ H' : Hp, Same H H' → E (.ref (He.ga K "Overtaken")) none H'
theorem c_Desk_putOver {P : Program} {w : World} {K : PySem.W.Frag} {mg : Str → Option Value} {base : Heap} (T : Tx K mg) : MetX P w K mg base 6 (He.ga K "Desk") "put" (spPutOver K) := by
  refine metX T.F_Desk_put T.k_Desk T.m_Desk_put (fun _ _ _ _ _ _ us hl => match us, hl with | [_, _, _, _, _, _], _ => rfl) sc_Desk_put (fun vs H Q E h => ?_) (fun cdv A outer s H vs Q E hr h => ?_)
  · obtain ⟨d, fr, S, ls, F, p, t, x, s0, ov, rfl, _⟩ := h
    rfl
  · obtain ⟨d, fr, S, ls, F, p, t, x, s0, ov, rfl, hD, fo, hp, ht, tx, sn, eo, q⟩ := h
    refine ⟨_, (pss_cons (ps_expr (C8.pe_mt (c_Desk_check_place T) hr (by decide) (pv 0) (pa_cons (pv 1) (pa_cons (pv 2) pa_nil))))
    (pss_cons (ps_expr (C8.pe_mt (c_Desk_check_text T) hr (by decide) (pv 0) (pa_cons (pv 3) pa_nil)))
    (pss_cons (ps_if (pt_not (pt_val (C8.pe_mt (c_Past_was_seen T) hr (by decide) (pe_fld (pv 0) (by rfl)) (pa_cons (pv 1) (pa_cons (pv 2) (pa_cons (pv 4) pa_nil))))))
      (pss_one ps_never)
      pss_nil)
    (pss_cons (ps_if (pt_not (pt_val (C8.pe_mt (c_Past_is_over T) hr (by decide) (pe_fld (pv 0) (by rfl)) (pa_cons (pv 1) (pa_cons (pv 2) (pa_cons (pv 5) pa_nil))))))
      (pss_one (ps_own T.x_Overtaken T.g_Overtaken rfl (takes_of rfl rfl rfl rfl) rfl))
      pss_nil)
    (pss_cons (ps_set (i := 6) sc_Desk_put.nd rfl (Or.inl rfl) (C8.pe_mt (c_Past_lay_down T) hr (by decide) (pe_fld (pv 0) (by rfl)) (pa_cons (pv 1) (pa_cons (pv 2) (pa_cons (pv 3) (pa_cons (pv 4) pa_nil))))))
    (pss_cons (ps_expr (pe_bm PySem.F.plainAttrs_list PySem.F.slot_list_append PySem.F.type_list_append mt_append (pe_fld (pv 0) (by rfl)) (pa_cons (pe_tup (pa_cons pe_str (pa_cons (pv 1) (pa_cons (pv 2) (pa_cons (pv 3) (pa_cons (pv 4) (pa_cons (pv 5) (pa_cons (pv 6) pa_nil)))))))) pa_nil)))
    (pss_one (ps_ret (pv 6))))))))), ?_⟩
    obtain ⟨B, hB, hF, h3⟩ := id hD
    refine ⟨_, rfl, d, _, _, rfl, hB.obj, rfl, _, rfl, _, rfl, d, fr, S, ls, F, p, t, rfl, hD, hp, ht, ?_⟩
    refine ⟨_, rfl, d, _, _, rfl, hB.obj, rfl, _, rfl, d, x, rfl, tx, fun H1 s1 => ?_⟩
    have hB1 : DeskAt H1 (He.ga K "Desk") (He.ga K "Past") d fr S ls B := hB.keep (fun x o _ e => s1 _ _ e) (fun _ _ e => s1 _ _ e)
    refine ⟨_, rfl, d, _, _, _, _, rfl, hB1.obj, T.k_Desk, T.n_Desk_past, df_past _ _, B.p, _, _, rfl, hB1.past.raw.obj, rfl, _, rfl, _, rfl, _, rfl, B.p, fr, S, B.A, p, t, s0, rfl, hB1.past, fo, hp, ht, fun H2 s2 => ⟨true, by rw [decide_eq_true (De.seen_in sn)], iteF ?_⟩⟩
    have hB2 : DeskAt H2 (He.ga K "Desk") (He.ga K "Past") d fr S ls B := hB1.keep (fun x o _ e => s2 _ _ e) (fun _ _ e => s2 _ _ e)
    refine ⟨_, rfl, d, _, _, _, _, rfl, hB2.obj, T.k_Desk, T.n_Desk_past, df_past _ _, B.p, _, _, rfl, hB2.past.raw.obj, rfl, _, rfl, _, rfl, _, rfl, B.p, fr, S, B.A, p, t, ov, rfl, hB2.past, hp, ht, fun H3 s3 => ⟨false, by rw [decide_eq_false eo], iteT ?_⟩⟩
    exact q H3 ((s1.trans s2).trans s3)
--# Desk.back nothing
def spBackNone (K : PySem.W.Frag) : Sp := fun vs H _ E => ∃ (d : Addr) (fr : List Int) (S : De) (ls : List Line) (F : Addr → Prop) (p t : Nat), vs = [.ref d, .int p, .int t] ∧ DeK K H d fr S ls F ∧ p < S.n ∧ t ≤ fr.length ∧ (S.lie p t).length ≤ (if t = 0 then 1 else 0) ∧
  ∀ H' : Hp, Same H H' → E (.ref (He.ga K "Nothing")) none H'
theorem c_Desk_backNone {P : Program} {w : World} {K : PySem.W.Frag} {mg : Str → Option Value} {base : Heap} (T : Tx K mg) : MetX P w K mg base 6 (He.ga K "Desk") "back" (spBackNone K) := by
  refine metX T.F_Desk_back T.k_Desk T.m_Desk_back (fun _ _ _ _ _ _ us hl => match us, hl with | [_, _, _], _ => rfl) sc_Desk_back (fun vs H Q E h => ?_) (fun cdv A outer s H vs Q E hr h => ?_)
  · obtain ⟨d, fr, S, ls, F, p, t, rfl, _⟩ := h
    rfl
  · obtain ⟨d, fr, S, ls, F, p, t, rfl, hD, hp, ht, hl, q⟩ := h
    refine ⟨_, (pss_cons (ps_expr (C8.pe_mt (c_Desk_check_place T) hr (by decide) (pv 0) (pa_cons (pv 1) (pa_cons (pv 2) pa_nil))))
    (pss_cons (ps_if (pt_not (pt_val (C8.pe_mt (c_Past_can_take_off T) hr (by decide) (pe_fld (pv 0) (by rfl)) (pa_cons (pv 1) (pa_cons (pv 2) pa_nil)))))
      (pss_one (ps_own T.x_Nothing T.g_Nothing rfl (takes_of rfl rfl rfl rfl) rfl))
      pss_nil)
    (pss_cons (ps_set (i := 3) sc_Desk_back.nd rfl (Or.inl rfl) (C8.pe_mt (c_Past_take_off T) hr (by decide) (pe_fld (pv 0) (by rfl)) (pa_cons (pv 1) (pa_cons (pv 2) pa_nil))))
    (pss_cons (ps_expr (pe_bm PySem.F.plainAttrs_list PySem.F.slot_list_append PySem.F.type_list_append mt_append (pe_fld (pv 0) (by rfl)) (pa_cons (pe_tup (pa_cons pe_str (pa_cons (pv 1) (pa_cons (pv 2) (pa_cons (pv 3) pa_nil))))) pa_nil)))
    (pss_one (ps_ret (pv 3))))))), ?_⟩
    obtain ⟨B, hB, hF, h3⟩ := id hD
    refine ⟨_, rfl, d, _, _, rfl, hB.obj, rfl, _, rfl, _, rfl, d, fr, S, ls, F, p, t, rfl, hD, hp, ht, ?_⟩
    refine ⟨_, rfl, d, _, _, _, _, rfl, hB.obj, T.k_Desk, T.n_Desk_past, df_past _ _, B.p, _, _, rfl, hB.past.raw.obj, rfl, _, rfl, _, rfl, B.p, fr, S, B.A, p, t, rfl, hB.past, hp, ht, fun H1 s1 => ⟨false, by rw [decide_eq_false (by omega)], iteT ?_⟩⟩
    exact q H1 s1

end PD

namespace PD
open PySem PySem.Spec PyProof.Rows L2

/-! Phrasedesk: a world of desks and data, without rounds -/
open LamX (ExtN Tabs CodeO TabS)
structure Dk where
  d : Addr
  fr : List Int
  S : De
  ls : List Line
/-- neither a tuple nor what tables tell of -/
structure Plain (o : HO) : Prop where
  t : ∀ xs, o ≠ .tup xs
  b : ∀ ps, o ≠ .tbl ps
  e : ∀ f, o ≠ .ext f
/-- what is not for data: what was there, the desks' own, lists in the making -/
def Pw (A : Hp) (F : Nat → Addr → Prop) (n : Nat) (Os : List (Addr × List V × List PyData)) : Addr → Prop := fun x => (∃ o, A x = some o ∧ ∀ ps, o ≠ .tbl ps) ∨ (∃ i, i < n ∧ F i x) ∨ ∃ o ∈ Os, o.1 = x
structure WdF (K : PySem.W.Frag) (T : List (Addr × Str)) (A G : Hp) (F : Nat → Addr → Prop) (Ds : List Dk) (Os : List (Addr × List V × List PyData)) (Ts : List (Addr × List V)) (Vs : List (V × PyData)) : Prop where
  ext : ExtN A G
  tab : Tabs T G
  desk : ∀ i D, Ds[i]? = some D → DeK K G D.d D.fr D.S D.ls (F i) ∧ D.S.Ok D.fr ∧ FrOk D.fr
  new : ∀ i x o, i < Ds.length → F i x → A x = some o → ∃ ps, o = .tbl ps
  dis : ∀ i j x, i < Ds.length → j < Ds.length → i ≠ j → F i x → ¬ F j x
  pl : ∀ i x, i < Ds.length → F i x → ∃ o, G x = some o ∧ Plain o
  own : ∀ o ∈ Os, G o.1 = some (.lst o.2.1) ∧ DnAll (Pw A F Ds.length Os) G o.2.1 o.2.2 ∧ (¬ ∃ i, i < Ds.length ∧ F i o.1) ∧ ∀ u, A o.1 = some u → ∃ ps, u = .tbl ps
  odis : Os.Pairwise fun a b => a.1 ≠ b.1
  tps : ∀ p ∈ Ts, G p.1 = some (.tup p.2)
  dat : ∀ p ∈ Vs, Dn (Pw A F Ds.length Os) G p.1 p.2
def Wd (K : PySem.W.Frag) (T : List (Addr × Str)) (A G : Hp) (Ds : List Dk) (Os : List (Addr × List V × List PyData)) (Ts : List (Addr × List V)) (Vs : List (V × PyData)) : Prop := ∃ F, WdF K T A G F Ds Os Ts Vs
theorem footD_plain {H : Hp} {CD CP d : Addr} {fr : List Int} {S : De} {ls : List Line} {B : DA} (h : DeskAt H CD CP d fr S ls B) {x : Addr} (hx : footD d fr S.n B x) : ∃ o, H x = some o ∧ Plain o := by
  rcases hx with rfl | rfl | hx
  · exact ⟨_, h.obj, (fun _ z => nomatch z), (fun _ z => nomatch z), (fun _ z => nomatch z)⟩
  · obtain ⟨vs, hv, _⟩ := h.lines
    exact ⟨_, hv, (fun _ z => nomatch z), (fun _ z => nomatch z), (fun _ z => nomatch z)⟩
  · have r := h.past.raw
    rcases hx with rfl | rfl | rfl | rfl | rfl | rfl | ⟨p, t, d, rfl⟩ | ⟨p, t, d, rfl⟩
    · exact ⟨_, r.obj, (fun _ z => nomatch z), (fun _ z => nomatch z), (fun _ z => nomatch z)⟩
    · exact ⟨_, r.frm, (fun _ z => nomatch z), (fun _ z => nomatch z), (fun _ z => nomatch z)⟩
    · exact ⟨_, r.tx, (fun _ z => nomatch z), (fun _ z => nomatch z), (fun _ z => nomatch z)⟩
    · exact ⟨_, r.og, (fun _ z => nomatch z), (fun _ z => nomatch z), (fun _ z => nomatch z)⟩
    · exact ⟨_, r.ev, (fun _ z => nomatch z), (fun _ z => nomatch z), (fun _ z => nomatch z)⟩
    · exact ⟨_, r.pi, (fun _ z => nomatch z), (fun _ z => nomatch z), (fun _ z => nomatch z)⟩
    · exact ⟨_, (r.evs p t d).2, (fun _ z => nomatch z), (fun _ z => nomatch z), (fun _ z => nomatch z)⟩
    · exact ⟨_, (r.pis p t d).2, (fun _ z => nomatch z), (fun _ z => nomatch z), (fun _ z => nomatch z)⟩
theorem Desk.shrink {H : Hp} {CD CP d : Addr} {fr : List Int} {S : De} {ls : List Line} {F : Addr → Prop} (h : Desk H CD CP d fr S ls F) : ∃ F', Desk H CD CP d fr S ls F' ∧ (∀ x, F' x → F x) ∧ ∀ x, F' x → ∃ o, H x = some o ∧ Plain o := by
  obtain ⟨B, h1, h2, _⟩ := h
  exact ⟨_, desk_of h1, h2, fun x z => footD_plain h1 z⟩
section
variable {K : PySem.W.Frag} {T : List (Addr × Str)} {A G G' : Hp} {F : Nat → Addr → Prop} {Ds : List Dk} {Os : List (Addr × List V × List PyData)} {Ts : List (Addr × List V)} {Vs Ws : List (V × PyData)}
/-- all but tables stays -/
theorem WdF.keep (h : WdF K T A G F Ds Os Ts Vs) (e : ExtN G G') (t : Tabs T G') : WdF K T A G' F Ds Os Ts Vs := by
  have il : ∀ {i : Nat} {D : Dk}, Ds[i]? = some D → i < Ds.length := fun z => (List.getElem?_eq_some_iff.mp z).1
  refine ⟨h.ext.trans e, t, fun i D z => ?_, h.new, h.dis, fun i x hi fx => ?_, fun o ho => ?_, h.odis, (fun p hp => e _ _ (h.tps p hp) fun _ w => nomatch w), fun p hp => ?_⟩
  · obtain ⟨a, b, c⟩ := h.desk i D z
    refine ⟨a.keep (fun x o fx ex => ?_) (fun q xs ex => e _ _ ex fun _ w => nomatch w), b, c⟩
    obtain ⟨u, eu, pu⟩ := h.pl i x (il z) fx
    rw [ex] at eu
    cases (Option.some.inj eu)
    exact e _ _ ex pu.b
  · obtain ⟨u, eu, pu⟩ := h.pl i x hi fx
    exact ⟨u, e _ _ eu pu.b, pu⟩
  · obtain ⟨a, b, c, d⟩ := h.own o ho
    exact ⟨e _ _ a fun _ w => (nomatch w), b.keep (fun a xs n ea => ⟨n, e _ _ ea fun _ w => nomatch w⟩) (fun a xs ea => e _ _ ea fun _ w => nomatch w), c, d⟩
  · exact (h.dat p hp).keep (fun a xs n ea => ⟨n, e _ _ ea fun _ w => nomatch w⟩) fun a xs ea => e _ _ ea fun _ w => nomatch w
theorem WdF.same (h : WdF K T A G F Ds Os Ts Vs) (s : Same G G') : WdF K T A G' F Ds Os Ts Vs := h.keep (ExtN.same s) (h.tab.ext s)
theorem WdF.add (h : WdF K T A G F Ds Os Ts Vs) {v : V} {d : PyData} (z : Dn (Pw A F Ds.length Os) G v d) : WdF K T A G F Ds Os Ts ((v, d) :: Vs) :=
  ⟨h.ext, h.tab, h.desk, h.new, h.dis, h.pl, h.own, h.odis, h.tps, fun p hp => by
    rcases List.mem_cons.mp hp with rfl | hp
    · exact z
    · exact h.dat p hp⟩
theorem WdF.less (h : WdF K T A G F Ds Os Ts Vs) (s : ∀ p ∈ Ws, p ∈ Vs) : WdF K T A G F Ds Os Ts Ws := ⟨h.ext, h.tab, h.desk, h.new, h.dis, h.pl, h.own, h.odis, h.tps, fun p hp => h.dat p (s p hp)⟩
theorem WdF.noF (h : WdF K T A G F Ds Os Ts Vs) {a : Addr} (n : ∀ o, G a = some o → ∃ ps, o = .tbl ps) : ¬ ∃ i, i < Ds.length ∧ F i a := fun ⟨i, hi, z⟩ => by
  obtain ⟨o, e, p⟩ := h.pl i a hi z
  obtain ⟨ps, ep⟩ := n o e
  exact p.b ps ep
theorem WdF.newA (h : WdF K T A G F Ds Os Ts Vs) {a : Addr} (n : ∀ o, G a = some o → ∃ ps, o = .tbl ps) : ∀ u, A a = some u → ∃ ps, u = .tbl ps := fun u e => Classical.byContradiction fun c => c (n u (h.ext a u e fun ps w => c ⟨ps, w⟩))
theorem WdF.noT (h : WdF K T A G F Ds Os Ts Vs) {a : Addr} (n : ∀ o, G a = some o → ∃ ps, o = .tbl ps) : ¬ Pw A F Ds.length Os a := by
  rintro (⟨o, e, z⟩ | z | ⟨o, ho, rfl⟩)
  · obtain ⟨ps, ep⟩ := h.newA n o e
    exact z ps ep
  · exact h.noF n z
  · obtain ⟨ps, ep⟩ := n _ (h.own o ho).1
    cases ep
theorem WdF.no (h : WdF K T A G F Ds Os Ts Vs) {a : Addr} (n : G a = none) : ¬ Pw A F Ds.length Os a := h.noT fun o e => by rw [n] at e; cases e
/-- an own list, begun -/
theorem WdF.begin (h : WdF K T A G F Ds Os Ts Vs) {D : Addr} (n : G D = none) : WdF K T A (upd G D (.lst [])) F Ds ((D, [], []) :: Os) Ts Vs := by
  have s : Same G (upd G D (.lst [])) := same_upd n
  have h' := h.same s
  have up : ∀ {P : Addr → Prop}, P = Pw A F Ds.length Os → ∀ a xs, ¬ P a → G a = some (.lst xs) → ¬ Pw A F Ds.length ((D, [], []) :: Os) a ∧ (upd G D (.lst [])) a = some (.lst xs) := by
    rintro P rfl a xs np ea
    refine ⟨?_, s _ _ ea⟩
    rintro (z | z | ⟨o, ho, rfl⟩)
    · exact np (.inl z)
    · exact np (.inr (.inl z))
    · rcases List.mem_cons.mp ho with rfl | ho
      · rw [n] at ea
        cases ea
      · exact np (.inr (.inr ⟨o, ho, rfl⟩))
  refine ⟨h'.ext, h'.tab, h'.desk, h'.new, h'.dis, h'.pl, fun o ho => ?_, List.pairwise_cons.mpr ⟨fun o ho z => ?_, h.odis⟩, h'.tps, fun p hp => (h.dat p hp).keep (up rfl) fun a xs ea => s _ _ ea⟩
  · rcases List.mem_cons.mp ho with rfl | ho
    · exact ⟨upd_same, .nil, h.noF (fun o e => by rw [n] at e; cases e), h.newA fun o e => by rw [n] at e; cases e⟩
    · obtain ⟨a, b, c, d⟩ := h.own o ho
      exact ⟨s _ _ a, b.keep (up rfl) (fun a xs ea => s _ _ ea), c, d⟩
  · have := (h.own o ho).1
    have z' : D = o.1 := z
    rw [← z', n] at this
    cases this
/-- an own list, one more -/
theorem WdF.push {D : Addr} {us : List V} {ds : List PyData} {v : V} {d : PyData} (h : WdF K T A G F Ds ((D, us, ds) :: Os) Ts Vs) (z : Dn (Pw A F Ds.length ((D, us, ds) :: Os)) G v d) : WdF K T A (upd G D (.lst (us ++ [v]))) F Ds ((D, us ++ [v], ds ++ [d]) :: Os) Ts Vs := by
  obtain ⟨hD, dD, nD, aD⟩ := h.own _ List.mem_cons_self
  have hD' : G D = some (.lst us) := hD
  have pe : Pw A F Ds.length ((D, us ++ [v], ds ++ [d]) :: Os) = Pw A F Ds.length ((D, us, ds) :: Os) := by
    funext x
    unfold Pw
    simp
  have e : ∀ x o, x ≠ D → G x = some o → (upd G D (.lst (us ++ [v]))) x = some o := fun x o n q => by rw [upd_ne n]; exact q
  have nf : ∀ {i x}, i < Ds.length → F i x → x ≠ D := fun {i x} hi fx z => nD ⟨i, hi, by rw [← z]; exact fx⟩
  have tup : ∀ a xs, G a = some (.tup xs) → (upd G D (.lst (us ++ [v]))) a = some (.tup xs) := fun a xs ea => e _ _ (ne_of ea hD' fun z => nomatch z) ea
  have lst : ∀ a xs, ¬ Pw A F Ds.length ((D, us, ds) :: Os) a → G a = some (.lst xs) → ¬ Pw A F Ds.length ((D, us ++ [v], ds ++ [d]) :: Os) a ∧ (upd G D (.lst (us ++ [v]))) a = some (.lst xs) := fun a xs n ea => by
    rw [pe]
    exact ⟨n, e _ _ (fun q => n (.inr (.inr ⟨_, List.mem_cons_self, q.symm⟩))) ea⟩
  refine ⟨fun b o eb nb => ?_, ?_, fun i D' z' => ?_, h.new, h.dis, fun i x hi fx => ?_, fun o ho => ?_, ?_, (fun p hp => tup _ _ (h.tps p hp)), fun p hp => (h.dat p hp).keep lst tup⟩
  · refine e _ _ (fun q => ?_) (h.ext b o eb nb)
    obtain ⟨ps, ep⟩ := aD o (by rw [q] at eb; exact eb)
    exact nb ps ep
  · intro p hp
    obtain ⟨ps, a, b, c⟩ := h.tab p hp
    refine ⟨ps, e _ _ (ne_of a hD' fun z => nomatch z) a, b, fun pos cv hc => ?_⟩
    obtain ⟨c', e1, e2⟩ := c pos cv hc
    exact ⟨c', e1, e _ _ (ne_of e2 hD' fun z => nomatch z) e2⟩
  · obtain ⟨a, b, c⟩ := h.desk i D' z'
    exact ⟨a.keep (fun x o fx ex => e _ _ (nf (List.getElem?_eq_some_iff.mp z').1 fx) ex) tup, b, c⟩
  · obtain ⟨o, eo, po⟩ := h.pl i x hi fx
    exact ⟨o, e _ _ (nf hi fx) eo, po⟩
  · rcases List.mem_cons.mp ho with rfl | ho
    · refine ⟨upd_same, ?_, nD, aD⟩
      have app : ∀ {us : List V} {ds : List PyData}, DnAll (Pw A F Ds.length ((D, us ++ [v], ds ++ [d]) :: Os)) (upd G D (.lst (us ++ [v]))) us ds → True := fun _ => trivial
      have key : ∀ {P : Addr → Prop} {H : Hp} {us : List V} {ds : List PyData}, DnAll P H us ds → Dn P H v d → DnAll P H (us ++ [v]) (ds ++ [d]) := by
        intro P H us
        induction us with
        | nil =>
          intro ds a b
          cases a
          exact .cons b .nil
        | cons u us ih =>
          intro ds a b
          cases a with
          | cons x y => exact .cons x (ih y b)
      exact key (dD.keep lst tup) (z.keep lst tup)
    · obtain ⟨a, b, c, d'⟩ := h.own o (List.mem_cons_of_mem _ ho)
      refine ⟨e _ _ (fun q => (List.pairwise_cons.mp h.odis).1 o ho q.symm) a, b.keep lst tup, c, d'⟩
  · obtain ⟨a, b⟩ := List.pairwise_cons.mp h.odis
    exact List.pairwise_cons.mpr ⟨a, b⟩
/-- an own list, done: data -/
theorem WdF.done {D : Addr} {us : List V} {ds : List PyData} (h : WdF K T A G F Ds ((D, us, ds) :: Os) Ts Vs) : WdF K T A G F Ds Os Ts ((.ref D, .list ds) :: Vs) := by
  obtain ⟨hD, dD, nD, aD⟩ := h.own _ List.mem_cons_self
  obtain ⟨o1, o2⟩ := List.pairwise_cons.mp h.odis
  have sub : ∀ x, Pw A F Ds.length Os x → Pw A F Ds.length ((D, us, ds) :: Os) x := by
    rintro x (z | z | ⟨o, ho, rfl⟩)
    · exact .inl z
    · exact .inr (.inl z)
    · exact .inr (.inr ⟨o, List.mem_cons_of_mem _ ho, rfl⟩)
  refine ⟨h.ext, h.tab, h.desk, h.new, h.dis, h.pl, fun o ho => ?_, o2, h.tps, fun p hp => ?_⟩
  · obtain ⟨a, b, c, d⟩ := h.own o (List.mem_cons_of_mem _ ho)
    exact ⟨a, b.mono sub, c, d⟩
  · rcases List.mem_cons.mp hp with rfl | hp
    · refine .lst ?_ hD (dD.mono sub)
      rintro (⟨o, e, z⟩ | z | ⟨o, ho, z⟩)
      · obtain ⟨ps, ep⟩ := aD o e
        exact z ps ep
      · exact nD z
      · exact o1 o ho z.symm
    · exact (h.dat p hp).mono sub
/-- a deed at one desk -/
theorem WdF.deed (h : WdF K T A G F Ds Os Ts Vs) {i : Nat} {D : Dk} {S' : De} {ls' : List Line} {F' : Addr → Prop} (e : Ds[i]? = some D) (dk : DeK K G' D.d D.fr S' ls' F') (on : Only (F i) G G') (ft : ∀ x, F' x → F i x ∨ G x = none) (ok : S'.Ok D.fr) :
    ∃ F2, WdF K T A G' F2 (Ds.set i ⟨D.d, D.fr, S', ls'⟩) Os Ts Vs ∧ ∀ x, ¬ F' x → G x = none → ¬ Pw A F2 (Ds.set i ⟨D.d, D.fr, S', ls'⟩).length Os x := by
  have hi : i < Ds.length := (List.getElem?_eq_some_iff.mp e).1
  obtain ⟨F2, d2, sub, pl2⟩ := dk.shrink
  have fo := (h.desk i D e).2.2
  have nt : ∀ {q : Addr} {o : HO}, G q = some o → ¬ Plain o → ¬ F i q := fun {q o} eq np z => by
    obtain ⟨u, eu, pu⟩ := h.pl i q hi z
    rw [eq] at eu
    cases (Option.some.inj eu)
    exact np pu
  have tup : ∀ q xs, G q = some (.tup xs) → G' q = some (.tup xs) := fun q xs eq => on.out _ _ (nt eq fun p => p.t _ rfl) eq
  have f2 : ∀ x, F2 x → F i x ∨ G x = none := fun x z => ft x (sub x z)
  have nofoot : ∀ x, (∃ j, j < (Ds.set i ⟨D.d, D.fr, S', ls'⟩).length ∧ (if j = i then F2 else F j) x) → (∃ j, j < Ds.length ∧ F j x) ∨ (F' x ∧ G x = none) := by
    rintro x ⟨j, hj, z⟩
    rw [List.length_set] at hj
    by_cases c : j = i
    · rw [if_pos c] at z
      rcases f2 x z with y | y
      · exact .inl ⟨i, hi, y⟩
      · exact .inr ⟨sub x z, y⟩
    · rw [if_neg c] at z
      exact .inl ⟨j, hj, z⟩
  have lst : ∀ a xs, ¬ Pw A F Ds.length Os a → G a = some (.lst xs) → ¬ Pw A (fun j => if j = i then F2 else F j) (Ds.set i ⟨D.d, D.fr, S', ls'⟩).length Os a ∧ G' a = some (.lst xs) := by
    intro a xs n ea
    refine ⟨?_, on.out _ _ (fun z => n (.inr (.inl ⟨i, hi, z⟩))) ea⟩
    rintro (z | z | z)
    · exact n (.inl z)
    · rcases nofoot a z with y | ⟨_, y⟩
      · exact n (.inr (.inl y))
      · rw [ea] at y
        cases y
    · exact n (.inr (.inr z))
  refine ⟨fun j => if j = i then F2 else F j, ⟨?_, ?_, ?_, ?_, ?_, ?_, ?_, h.odis, (fun p hp => tup _ _ (h.tps p hp)), ?_⟩, ?_⟩
  · intro b o eb nb
    refine on.out b o (fun z => ?_) (h.ext b o eb nb)
    obtain ⟨ps, ep⟩ := h.new i b o hi z eb
    exact nb ps ep
  · intro p hp
    obtain ⟨ps, a, b, c⟩ := h.tab p hp
    refine ⟨ps, on.out _ _ (nt a fun p => p.b _ rfl) a, b, fun pos cv hc => ?_⟩
    obtain ⟨c', e1, e2⟩ := c pos cv hc
    exact ⟨c', e1, on.out _ _ (nt e2 fun p => p.e _ rfl) e2⟩
  · intro j D' z
    by_cases c : j = i
    · subst c
      rw [List.getElem?_set_self hi] at z
      cases (Option.some.inj z)
      rw [if_pos rfl]
      exact ⟨d2, ok, fo⟩
    · rw [List.getElem?_set_ne (Ne.symm c)] at z
      rw [if_neg c]
      obtain ⟨a, b, c'⟩ := h.desk j D' z
      have hj : j < Ds.length := (List.getElem?_eq_some_iff.mp z).1
      exact ⟨a.keep (fun x o fx ex => on.out _ _ (h.dis j i x hj hi c fx) ex) tup, b, c'⟩
  · intro j x o hj fx ax
    rw [List.length_set] at hj
    by_cases c : j = i
    · rw [if_pos c] at fx
      rcases f2 x fx with z | z
      · exact h.new i x o hi z ax
      · refine Classical.byContradiction fun n => ?_
        have := h.ext x o ax fun ps w => n ⟨ps, w⟩
        rw [z] at this
        cases this
    · rw [if_neg c] at fx
      exact h.new j x o hj fx ax
  · intro j k x hj hk ne fj fk
    rw [List.length_set] at hj hk
    have away : ∀ {m : Nat}, m < Ds.length → m ≠ i → F2 x → ¬ F m x := fun {m} hm n z w => by
      rcases f2 x z with y | y
      · exact h.dis m i x hm hi n w y
      · obtain ⟨o, eo, _⟩ := h.pl m x hm w
        rw [y] at eo
        cases eo
    by_cases c : j = i
    · have ck : k ≠ i := fun z => ne (c.trans z.symm)
      rw [if_pos c] at fj
      rw [if_neg ck] at fk
      exact away hk ck fj fk
    · rw [if_neg c] at fj
      by_cases ck : k = i
      · rw [if_pos ck] at fk
        exact away hj c fk fj
      · rw [if_neg ck] at fk
        exact h.dis j k x hj hk ne fj fk
  · intro j x hj fx
    rw [List.length_set] at hj
    by_cases c : j = i
    · rw [if_pos c] at fx
      exact pl2 x fx
    · rw [if_neg c] at fx
      obtain ⟨o, eo, po⟩ := h.pl j x hj fx
      exact ⟨o, on.out _ _ (h.dis j i x hj hi c fx) eo, po⟩
  · intro o ho
    obtain ⟨a, b, c, d⟩ := h.own o ho
    refine ⟨on.out _ _ (fun z => c ⟨i, hi, z⟩) a, b.keep lst tup, fun z => ?_, d⟩
    rcases nofoot _ z with y | ⟨_, y⟩
    · exact c y
    · rw [a] at y
      cases y
  · exact fun p hp => (h.dat p hp).keep lst tup
  · intro x nx gx hp
    rcases hp with ⟨o, e, z⟩ | z | ⟨o, ho, rfl⟩
    · have := h.ext x o e z
      rw [gx] at this
      cases this
    · rcases nofoot x z with y | ⟨y, _⟩
      · exact h.noF (fun o e => by rw [gx] at e; cases e) y
      · exact nx y
    · rw [(h.own o ho).1] at gx
      cases gx
/-- a new desk -/
theorem WdF.made (h : WdF K T A G F Ds Os Ts Vs) {d : Addr} {fr : List Int} {F' : Addr → Prop} (s : Same G G') (dk : DeK K G' d fr De.none [] F') (fn : ∀ x, F' x → G x = none) (fo : FrOk fr) :
    ∃ F2, WdF K T A G' F2 (Ds ++ [⟨d, fr, De.none, []⟩]) Os Ts Vs := by
  obtain ⟨F2, d2, sub, pl2⟩ := dk.shrink
  have h' := h.same s
  have len : ∀ {i : Nat}, i < (Ds ++ [(⟨d, fr, De.none, []⟩ : Dk)]).length → i ≠ Ds.length → i < Ds.length := fun hi n => by
    rw [List.length_append, List.length_singleton] at hi
    omega
  have nofoot : ∀ x, (∃ j, j < (Ds ++ [(⟨d, fr, De.none, []⟩ : Dk)]).length ∧ (if j = Ds.length then F2 else F j) x) → (∃ j, j < Ds.length ∧ F j x) ∨ G x = none := by
    rintro x ⟨j, hj, z⟩
    by_cases c : j = Ds.length
    · rw [if_pos c] at z
      exact .inr (fn x (sub x z))
    · rw [if_neg c] at z
      exact .inl ⟨j, len hj c, z⟩
  have lst : ∀ a xs, ¬ Pw A F Ds.length Os a → G a = some (.lst xs) → ¬ Pw A (fun j => if j = Ds.length then F2 else F j) (Ds ++ [(⟨d, fr, De.none, []⟩ : Dk)]).length Os a ∧ G' a = some (.lst xs) := by
    intro a xs n ea
    refine ⟨?_, s _ _ ea⟩
    rintro (z | z | z)
    · exact n (.inl z)
    · rcases nofoot a z with y | y
      · exact n (.inr (.inl y))
      · rw [ea] at y
        cases y
    · exact n (.inr (.inr z))
  refine ⟨fun j => if j = Ds.length then F2 else F j, ⟨h'.ext, h'.tab, ?_, ?_, ?_, ?_, ?_, h.odis, h'.tps, ?_⟩⟩
  · intro j D z
    by_cases c : j = Ds.length
    · rw [List.getElem?_append_right (by omega)] at z
      obtain ⟨_, e⟩ := one_ix (by omega) z
      rw [if_pos c, e]
      exact ⟨d2, De.none_ok, fo⟩
    · have hj := len (List.getElem?_eq_some_iff.mp z).1 c
      rw [List.getElem?_append_left hj] at z
      rw [if_neg c]
      exact h'.desk j D z
  · intro j x o hj fx ax
    by_cases c : j = Ds.length
    · rw [if_pos c] at fx
      refine Classical.byContradiction fun n => ?_
      have := h.ext x o ax fun ps w => n ⟨ps, w⟩
      rw [fn x (sub x fx)] at this
      cases this
    · rw [if_neg c] at fx
      exact h.new j x o (len hj c) fx ax
  · intro j k x hj hk ne fj fk
    have away : ∀ {m : Nat}, m < Ds.length → F2 x → ¬ F m x := fun {m} hm z w => by
      obtain ⟨o, eo, _⟩ := h.pl m x hm w
      rw [fn x (sub x z)] at eo
      cases eo
    by_cases c : j = Ds.length
    · have ck : k ≠ Ds.length := fun z => ne (c.trans z.symm)
      rw [if_pos c] at fj
      rw [if_neg ck] at fk
      exact away (len hk ck) fj fk
    · rw [if_neg c] at fj
      by_cases ck : k = Ds.length
      · rw [if_pos ck] at fk
        exact away (len hj c) fk fj
      · rw [if_neg ck] at fk
        exact h.dis j k x (len hj c) (len hk ck) ne fj fk
  · intro j x hj fx
    by_cases c : j = Ds.length
    · rw [if_pos c] at fx
      exact pl2 x fx
    · rw [if_neg c] at fx
      exact h'.pl j x (len hj c) fx
  · intro o ho
    obtain ⟨a, b, c, d'⟩ := h.own o ho
    refine ⟨s _ _ a, b.keep lst (fun a xs ea => s _ _ ea), fun z => ?_, d'⟩
    rcases nofoot _ z with y | y
    · exact c y
    · rw [a] at y
      cases y
  · exact fun p hp => (h.dat p hp).keep lst fun a xs ea => s _ _ ea
end

open LamX (ExtN Tabs CodeO TabS)
mutual
/-- a value that is told by the data at hand -/
inductive Kn (Vs : List (V × PyData)) : V → PyData → Prop
  | non : Kn Vs .non .none
  | bl (b : Bool) : Kn Vs (.bl b) (.bool b)
  | int (i : Int) : Kn Vs (.int i) (.int i)
  | str (x : Str) : Kn Vs (.str x) (.str x)
  | at (i : Nat) {v : V} {d : PyData} : Vs[i]? = some (v, d) → Kn Vs v d
inductive KnAll (Vs : List (V × PyData)) : List V → List PyData → Prop
  | nil : KnAll Vs [] []
  | cons {v : V} {vs : List V} {d : PyData} {ds : List PyData} : Kn Vs v d → KnAll Vs vs ds → KnAll Vs (v :: vs) (d :: ds)
end
section
variable {K : PySem.W.Frag} {T : List (Addr × Str)} {A G G' : Hp} {F : Nat → Addr → Prop} {Ds : List Dk} {Os : List (Addr × List V × List PyData)} {Ts : List (Addr × List V)} {Vs Ws : List (V × PyData)} {Q : VK} {E : XK} {vs : List V}
theorem Kn.dn (h : WdF K T A G F Ds Os Ts Vs) : ∀ {v : V} {d : PyData}, Kn Vs v d → Dn (Pw A F Ds.length Os) G v d
  | _, _, .non => .non
  | _, _, .bl b => .bl b
  | _, _, .int i => .int i
  | _, _, .str x => .str x
  | _, _, .at i e => h.dat _ (List.mem_of_getElem? e)
theorem KnAll.dn (h : WdF K T A G F Ds Os Ts Vs) : ∀ {vs : List V} {ds : List PyData}, KnAll Vs vs ds → DnAll (Pw A F Ds.length Os) G vs ds
  | _, _, .nil => .nil
  | _, _, .cons a b => .cons (a.dn h) (b.dn h)
theorem Wd.dp (h : Wd K T A G Ds Os Ts Vs) {v : V} {d : PyData} (k : Kn Vs v d) : Dp K G v d := let ⟨_, w⟩ := h; (k.dn w).dp
theorem Wd.same (h : Wd K T A G Ds Os Ts Vs) (s : Same G G') : Wd K T A G' Ds Os Ts Vs := let ⟨F, w⟩ := h; ⟨F, w.same s⟩
theorem Wd.less (h : Wd K T A G Ds Os Ts Vs) (n : Nat) : Wd K T A G Ds Os Ts (Vs.drop n) := let ⟨F, w⟩ := h; ⟨F, w.less fun _ hp => List.mem_of_mem_drop hp⟩
theorem Wd.bare (h : Wd K T A G Ds Os Ts Vs) : Wd K T A G Ds Os Ts [] := let ⟨F, w⟩ := h; ⟨F, w.less fun _ hp => nomatch hp⟩
theorem Wd.ext (h : Wd K T A G Ds Os Ts Vs) : ExtN A G := let ⟨_, w⟩ := h; w.ext
theorem Wd.tab (h : Wd K T A G Ds Os Ts Vs) : Tabs T G := let ⟨_, w⟩ := h; w.tab
theorem Wd.start (t : Tabs T A) : Wd K T A A [] [] [] [] := ⟨fun _ _ => False, ExtN.refl _, t, (fun _ _ z => nomatch z), (fun _ _ _ z => absurd z (Nat.not_lt_zero _)), (fun _ _ _ z => absurd z (Nat.not_lt_zero _)), (fun _ _ z => absurd z (Nat.not_lt_zero _)), (fun _ z => nomatch z), .nil, (fun _ z => nomatch z), fun _ z => nomatch z⟩
/-- written data -/
theorem Wd.lit (h : Wd K T A G Ds Os Ts Vs) (s : Same G G') {v : V} {d : PyData} (n : Dn (InH G) G' v d) : Wd K T A G' Ds Os Ts ((v, d) :: Vs) := by
  obtain ⟨F, w⟩ := h
  refine ⟨F, (w.same s).add (n.mono fun x z => ?_)⟩
  rcases z with ⟨o, e, q⟩ | ⟨i, hi, z⟩ | ⟨o, ho, rfl⟩
  · exact ⟨o, w.ext x o e q⟩
  · obtain ⟨o, e, _⟩ := w.pl i x hi z
    exact ⟨o, e⟩
  · exact ⟨_, (w.own o ho).1⟩
theorem Wd.begin (h : Wd K T A G Ds Os Ts Vs) {D : Addr} (n : G D = none) : Wd K T A (upd G D (.lst [])) Ds ((D, [], []) :: Os) Ts Vs := let ⟨F, w⟩ := h; ⟨F, w.begin n⟩
theorem Wd.push {D : Addr} {us : List V} {ds : List PyData} {v : V} {d : PyData} (h : Wd K T A G Ds ((D, us, ds) :: Os) Ts Vs) (z : Kn Vs v d) : Wd K T A (upd G D (.lst (us ++ [v]))) Ds ((D, us ++ [v], ds ++ [d]) :: Os) Ts Vs := let ⟨F, w⟩ := h; ⟨F, w.push (z.dn w)⟩
theorem Wd.done {D : Addr} {us : List V} {ds : List PyData} (h : Wd K T A G Ds ((D, us, ds) :: Os) Ts Vs) : Wd K T A G Ds Os Ts ((.ref D, .list ds) :: Vs) := let ⟨F, w⟩ := h; ⟨F, w.done⟩
theorem Wd.acc {D : Addr} {us : List V} {ds : List PyData} (h : Wd K T A G Ds ((D, us, ds) :: Os) Ts Vs) : G D = some (.lst us) := let ⟨F, w⟩ := h; (w.own _ List.mem_cons_self).1
/-- a list of what is at hand -/
theorem Wd.lst (h : Wd K T A G Ds Os Ts Vs) {b : Addr} {xs : List V} {ds : List PyData} (n : G b = none) (k : KnAll Vs xs ds) : Wd K T A (upd G b (.lst xs)) Ds Os Ts ((.ref b, .list ds) :: Vs) := by
  obtain ⟨F, w⟩ := h
  have s : Same G (upd G b (.lst xs)) := same_upd n
  exact ⟨F, (w.same s).add (.lst (w.no n) upd_same (k.dn (w.same s)))⟩
theorem Wd.tup (h : Wd K T A G Ds Os Ts Vs) {b : Addr} {xs : List V} {ds : List PyData} (n : G b = none) (k : KnAll Vs xs ds) : Wd K T A (upd G b (.tup xs)) Ds Os Ts ((.ref b, .tuple ds) :: Vs) := by
  obtain ⟨F, w⟩ := h
  have s : Same G (upd G b (.tup xs)) := same_upd n
  exact ⟨F, (w.same s).add (.tup upd_same (k.dn (w.same s)))⟩
/-- a tuple of whatever -/
theorem Wd.tupT (h : Wd K T A G Ds Os Ts Vs) {b : Addr} {xs : List V} (n : G b = none) : Wd K T A (upd G b (.tup xs)) Ds Os ((b, xs) :: Ts) Vs := by
  obtain ⟨F, w⟩ := h
  have w' := w.same (same_upd n (o := .tup xs))
  exact ⟨F, w'.ext, w'.tab, w'.desk, w'.new, w'.dis, w'.pl, w'.own, w'.odis, fun p hp => by
    rcases List.mem_cons.mp hp with rfl | hp
    · exact upd_same
    · exact w'.tps p hp, w'.dat⟩
theorem Wd.atT (h : Wd K T A G Ds Os Ts Vs) {i : Nat} {a : Addr} {xs : List V} (e : Ts[i]? = some (a, xs)) : SqT K G a xs := let ⟨F, w⟩ := h; SqT.of (w.tps _ (List.mem_of_getElem? e))
/-- numbers, texts, None: as values -/
def scV : PyData → Option V
  | .none => some .non
  | .bool b => some (.bl b)
  | .int i => some (.int i)
  | .str x => some (.str x)
  | _ => Option.none
theorem Dn.sc {P : Addr → Prop} {H : Hp} {v u : V} {d : PyData} (h : Dn P H v d) (e : scV d = some u) : v = u := by
  cases h with
  | non => exact Option.some.inj e
  | bl b => exact Option.some.inj e
  | int i => exact Option.some.inj e
  | str x => exact Option.some.inj e
  | lst _ _ _ => cases e
  | tup _ _ => cases e
theorem DnAll.sc {P : Addr → Prop} {H : Hp} : ∀ {vs us : List V} {ds : List PyData}, DnAll P H vs ds → ds.map scV = us.map some → vs = us
  | _, us, _, .nil, e => by
    cases us with
    | nil => rfl
    | cons _ _ => cases e
  | _, us, _, .cons a b, e => by
    cases us with
    | nil => cases e
    | cons u us =>
      rw [List.map_cons, List.map_cons] at e
      obtain ⟨e1, e2⟩ := List.cons.inj e
      rw [a.sc e1, b.sc e2]
/-- a written tuple of these, for a walk -/
theorem Wd.litT (h : Wd K T A G Ds Os Ts Vs) (s : Same G G') {v : V} {ds : List PyData} (us : List V) (n : Dn (InH G) G' v (.tuple ds)) (e : ds.map scV = us.map some) : ∃ a, v = .ref a ∧ Wd K T A G' Ds Os ((a, us) :: Ts) Vs := by
  obtain ⟨F, w⟩ := h
  have w' := w.same s
  cases n with
  | tup ea r =>
    have := r.sc e
    subst this
    refine ⟨_, rfl, F, w'.ext, w'.tab, w'.desk, w'.new, w'.dis, w'.pl, w'.own, w'.odis, fun p hp => ?_, w'.dat⟩
    rcases List.mem_cons.mp hp with rfl | hp
    · exact ea
    · exact w'.tps p hp
/-- a desk's object, as a method asks it -/
theorem Wd.me (h : Wd K T A G Ds Os Ts Vs) {i : Nat} {D : Dk} {m : Str} {R : Prop} (e : Ds[i]? = some D) (n : ∀ p L, (deskF p L).lookup m = none) (r : R) : ∃ (a dx : Addr) (fs : List (Str × V)), V.ref D.d = .ref a ∧ G a = some (.ins (He.ga K "Desk") dx fs) ∧ fs.lookup m = none ∧ R := by
  obtain ⟨F, w⟩ := h
  obtain ⟨⟨B, hB, _⟩, _⟩ := w.desk i D e
  exact ⟨_, _, _, rfl, hB.obj, n _ _, r⟩
/-- its list, told by data -/
theorem Wd.sql (h : Wd K T A G Ds Os Ts Vs) {a : Addr} {ds : List PyData} (k : Kn Vs (.ref a) (.list ds)) : ∃ xs, G a = some (.lst xs) ∧ xs.length = ds.length := by
  obtain ⟨F, w⟩ := h
  cases k.dn w with
  | lst _ e r => exact ⟨_, e, r.len⟩
theorem Wd.last (h : Wd K T A G Ds Os Ts Vs) {a : Addr} {ds : List PyData} {d : PyData} (k : Kn Vs (.ref a) (.list ds)) (e : ds.getLast? = some d) : ∃ xs v, G a = some (.lst xs) ∧ atI xs (-1) = some v ∧ Wd K T A G Ds Os Ts ((v, d) :: Vs) := by
  obtain ⟨F, w⟩ := h
  cases k.dn w with
  | lst _ ea r =>
    rename_i xs
    have key : ∀ {xs : List V} {ds : List PyData} {d : PyData}, DnAll (Pw A F Ds.length Os) G xs ds → ds.getLast? = some d → ∃ ys v, xs = ys ++ [v] ∧ Dn (Pw A F Ds.length Os) G v d := by
      intro xs
      induction xs with
      | nil =>
        intro ds d r e
        cases r
        cases e
      | cons x xs ih =>
        intro ds d r e
        cases r with
        | cons y z =>
          cases z with
          | nil =>
            cases (Option.some.inj e)
            exact ⟨[], x, rfl, y⟩
          | cons y' z' =>
            rw [List.getLast?_cons_cons] at e
            obtain ⟨ys, v, e1, e2⟩ := ih (.cons y' z') e
            exact ⟨x :: ys, v, by rw [e1]; rfl, e2⟩
    obtain ⟨ys, v, rfl, dv⟩ := key r e
    exact ⟨_, v, ea, atI_last ys v, F, w.add dv⟩
theorem Wd.nth (h : Wd K T A G Ds Os Ts Vs) {a : Addr} {ds : List PyData} {d : PyData} (j : Nat) (k : Kn Vs (.ref a) (.list ds)) (e : ds[j]? = some d) : ∃ xs v, G a = some (.lst xs) ∧ atI xs (j : Int) = some v ∧ Wd K T A G Ds Os Ts ((v, d) :: Vs) := by
  obtain ⟨F, w⟩ := h
  cases k.dn w with
  | lst _ ea r =>
    have key : ∀ {xs : List V} {ds : List PyData} {d : PyData} {j : Nat}, DnAll (Pw A F Ds.length Os) G xs ds → ds[j]? = some d → ∃ v, xs[j]? = some v ∧ Dn (Pw A F Ds.length Os) G v d := by
      intro xs
      induction xs with
      | nil =>
        intro ds d j r e
        cases r
        cases e
      | cons x xs ih =>
        intro ds d j r e
        cases r with
        | cons y z =>
          cases j with
          | zero =>
            cases (Option.some.inj e)
            exact ⟨x, rfl, y⟩
          | succ j =>
            obtain ⟨v, e1, e2⟩ := ih z e
            exact ⟨v, e1, e2⟩
    obtain ⟨v, ev, dv⟩ := key r e
    exact ⟨_, v, ea, atI_nat ev, F, w.add dv⟩
theorem Wd.fillE (h : Wd K T A G Ds Os Ts Vs) {i : Nat} {D : Dk} {t : Nat} {S' : De} {ns : List Int} {ls' : List Line} (e : Ds[i]? = some D) (ev : vs = [.ref D.d, .int t]) (t0 : 0 < t) (t1 : t ≤ D.fr.length) (l1 : D.S.puts.length ≤ 4000) (l2 : D.ls.length ≤ 4000) (ef : D.S.fillTo D.fr t D.S.n = (S', ns, ls'))
    (k : ∀ G' a, Wd K T A G' (Ds.set i ⟨D.d, D.fr, S', D.ls ++ ls'⟩) Os Ts ((.ref a, dI ns) :: Vs) → Q (.ref a) G') : spFill K vs G Q E := by
  obtain ⟨F, w⟩ := h
  obtain ⟨a, ok, fo⟩ := w.desk i D e
  refine ⟨D.d, D.fr, D.S, D.ls, F i, t, ev, a, ok, fo, t0, t1, l1, l2, fun b nb G' F' wt hl nF => ?_⟩
  have may : D.S.May D.fr (.fill t) := ⟨t0, t1⟩
  have ok' : (D.S.fillTo D.fr t D.S.n).1.Ok D.fr := (ok.come fo may).1
  rw [ef] at wt hl ok'
  obtain ⟨F2, w2, z2⟩ := w.deed e wt.desk wt.only wt.foot ok'
  exact k G' b ⟨F2, w2.add (dn_ls (z2 b nF nb) hl)⟩
theorem Wd.phrase (h : Wd K T A G Ds Os Ts Vs) {i : Nat} {D : Dk} {x : Str} (e : Ds[i]? = some D) (ev : vs = [.ref D.d, .str x]) (m : D.S.n < 6) (tx : TxOk x) (l1 : D.S.puts.length < 5000) (l2 : D.ls.length < 5000)
    (k : ∀ G', Wd K T A G' (Ds.set i ⟨D.d, D.fr, D.S.more.lay D.S.n 0 x Option.none, D.ls ++ [.phrase D.S.n x (D.S.puts.length : Int)]⟩) Os Ts Vs → Q (.int (D.S.n : Int)) G') : spPhrase K vs G Q E := by
  obtain ⟨F, w⟩ := h
  obtain ⟨a, ok, fo⟩ := w.desk i D e
  have may : D.S.May D.fr (.phrase x) := ⟨m, tx⟩
  refine ⟨D.d, D.fr, D.S, D.ls, F i, x, ev, a, fo, ok, may, l1, l2, fun G' F' dk on ft => ?_⟩
  obtain ⟨F2, w2, _⟩ := w.deed e dk on ft (ok.come fo may).1
  exact k G' ⟨F2, w2⟩
theorem Wd.put (h : Wd K T A G Ds Os Ts Vs) {i : Nat} {D : Dk} {p t : Nat} {x : Str} {s o : Option Int} (e : Ds[i]? = some D) (ev : vs = [.ref D.d, .int p, .int t, .str x, oV s, oV o]) (m : D.S.May D.fr (.put p t x s o)) (l1 : D.S.puts.length < 5000) (l2 : D.ls.length < 5000)
    (k : ∀ G', Wd K T A G' (Ds.set i ⟨D.d, D.fr, D.S.lay p t x s, D.ls ++ [.put p t x s o (D.S.puts.length : Int)]⟩) Os Ts Vs → Q (.int (D.S.puts.length : Int)) G') : spPut K vs G Q E := by
  obtain ⟨F, w⟩ := h
  obtain ⟨a, ok, fo⟩ := w.desk i D e
  refine ⟨D.d, D.fr, D.S, D.ls, F i, p, t, x, s, o, ev, a, fo, m, l1, l2, fun G' F' dk on ft => ?_⟩
  obtain ⟨F2, w2, _⟩ := w.deed e dk on ft (ok.come fo m).1
  exact k G' ⟨F2, w2⟩
theorem Wd.back (h : Wd K T A G Ds Os Ts Vs) {i : Nat} {D : Dk} {p t : Nat} {n : Int} (e : Ds[i]? = some D) (ev : vs = [.ref D.d, .int p, .int t]) (m : D.S.May D.fr (.back p t)) (en : D.S.now p t = some n) (l2 : D.ls.length < 5000)
    (k : ∀ G', Wd K T A G' (Ds.set i ⟨D.d, D.fr, D.S.off p t, D.ls ++ [.back p t n]⟩) Os Ts Vs → Q (.int n) G') : spBack K vs G Q E := by
  obtain ⟨F, w⟩ := h
  obtain ⟨a, ok, fo⟩ := w.desk i D e
  refine ⟨D.d, D.fr, D.S, D.ls, F i, p, t, n, ev, a, m, en, l2, fun G' F' dk on ft => ?_⟩
  obtain ⟨F2, w2, _⟩ := w.deed e dk on ft (ok.come fo m).1
  exact k G' ⟨F2, w2⟩
theorem Wd.fill (h : Wd K T A G Ds Os Ts Vs) {i : Nat} {D : Dk} {t : Nat} (e : Ds[i]? = some D) (ev : vs = [.ref D.d, .int t]) (t0 : 0 < t) (t1 : t ≤ D.fr.length) (l1 : D.S.puts.length ≤ 4000) (l2 : D.ls.length ≤ 4000)
    (k : ∀ G' a, Wd K T A G' (Ds.set i ⟨D.d, D.fr, (D.S.fillTo D.fr t D.S.n).1, D.ls ++ (D.S.fillTo D.fr t D.S.n).2.2⟩) Os Ts ((.ref a, dI (D.S.fillTo D.fr t D.S.n).2.1) :: Vs) → Q (.ref a) G') : spFill K vs G Q E := by
  obtain ⟨F, w⟩ := h
  obtain ⟨a, ok, fo⟩ := w.desk i D e
  refine ⟨D.d, D.fr, D.S, D.ls, F i, t, ev, a, ok, fo, t0, t1, l1, l2, fun b nb G' F' wt hl nF => ?_⟩
  have may : D.S.May D.fr (.fill t) := ⟨t0, t1⟩
  obtain ⟨F2, w2, z2⟩ := w.deed e wt.desk wt.only wt.foot (ok.come fo may).1
  exact k G' b ⟨F2, w2.add (dn_ls (z2 b nF nb) hl)⟩
theorem Wd.now (h : Wd K T A G Ds Os Ts Vs) {i : Nat} {D : Dk} {p t : Nat} {n : Int} (e : Ds[i]? = some D) (ev : vs = [.ref D.d, .int p, .int t]) (hp : p < D.S.n) (ht : t ≤ D.fr.length) (en : D.S.now p t = some n)
    (k : ∀ G' r, Wd K T A G' Ds Os Ts ((.ref r, .tuple [.int n, .str (D.S.pt n).x]) :: Vs) → G' r = some (.tup [.int n, .str (D.S.pt n).x]) → Q (.ref r) G') : spNowD K vs G Q E := by
  obtain ⟨F, w⟩ := h
  obtain ⟨a, ok, fo⟩ := w.desk i D e
  refine ⟨D.d, D.fr, D.S, D.ls, F i, p, t, ev, a, ok.num, hp, ht, (fun z => by rw [en] at z; cases z), fun m em G' r s nr hr => ?_⟩
  rw [en] at em
  cases em
  exact k G' r ⟨F, (w.same s).add (.tup hr (.cons (.int _) (.cons (.str _) .nil)))⟩ hr
theorem Wd.nowN (h : Wd K T A G Ds Os Ts Vs) {i : Nat} {D : Dk} {p t : Nat} (e : Ds[i]? = some D) (ev : vs = [.ref D.d, .int p, .int t]) (hp : p < D.S.n) (ht : t ≤ D.fr.length) (en : D.S.now p t = Option.none)
    (k : ∀ G', Wd K T A G' Ds Os Ts Vs → Q .non G') : spNowD K vs G Q E := by
  obtain ⟨F, w⟩ := h
  obtain ⟨a, ok, fo⟩ := w.desk i D e
  exact ⟨D.d, D.fr, D.S, D.ls, F i, p, t, ev, a, ok.num, hp, ht, fun _ G' s => k G' ⟨F, w.same s⟩, fun m em => by rw [en] at em; cases em⟩
theorem Wd.all_put (h : Wd K T A G Ds Os Ts Vs) {i : Nat} {D : Dk} {p t : Nat} (e : Ds[i]? = some D) (ev : vs = [.ref D.d, .int p, .int t]) (hp : p < D.S.n) (ht : t ≤ D.fr.length)
    (k : ∀ G' r, Wd K T A G' Ds Os Ts ((.ref r, dEs (D.S.ever p t)) :: Vs) → Q (.ref r) G') : spAllPutD K vs G Q E := by
  obtain ⟨F, w⟩ := h
  obtain ⟨a, ok, fo⟩ := w.desk i D e
  exact ⟨D.d, D.fr, D.S, D.ls, F i, p, t, ev, a, hp, ht, fun G' r s nr hr => k G' r ⟨F, (w.same s).add (dn_evs (w.no nr) hr)⟩⟩
theorem Wd.row (h : Wd K T A G Ds Os Ts Vs) {i : Nat} {D : Dk} {p : Nat} (e : Ds[i]? = some D) (ev : vs = [.ref D.d, .int p]) (hp : p < D.S.n)
    (k : ∀ G' r, Wd K T A G' Ds Os Ts ((.ref r, dRow (D.S.row (D.fr.length + 1) p)) :: Vs) → Q (.ref r) G') : spRowD K vs G Q E := by
  obtain ⟨F, w⟩ := h
  obtain ⟨a, ok, fo⟩ := w.desk i D e
  exact ⟨D.d, D.fr, D.S, D.ls, F i, p, ev, a, ok.num, fo, hp, fun G' r s nr hr => k G' r ⟨F, (w.same s).add (dn_row (w.no nr) hr)⟩⟩
theorem Wd.old (h : Wd K T A G Ds Os Ts Vs) {i : Nat} {D : Dk} (e : Ds[i]? = some D) (ev : vs = [.ref D.d])
    (k : ∀ G' r, Wd K T A G' Ds Os Ts ((.ref r, dPs (D.S.olds D.fr)) :: Vs) → Q (.ref r) G') : spOldD K vs G Q E := by
  obtain ⟨F, w⟩ := h
  obtain ⟨a, ok, fo⟩ := w.desk i D e
  exact ⟨D.d, D.fr, D.S, D.ls, F i, ev, a, ok, fo, fun G' r s nr hr => k G' r ⟨F, (w.same s).add (dn_prs (w.no nr) hr)⟩⟩
theorem Wd.tale (h : Wd K T A G Ds Os Ts Vs) {i : Nat} {D : Dk} (e : Ds[i]? = some D) (ev : vs = [.ref D.d])
    (k : ∀ G' r, Wd K T A G' Ds Os Ts ((.ref r, dLs D.ls) :: Vs) → Q (.ref r) G') : spTaleD K vs G Q E := by
  obtain ⟨F, w⟩ := h
  obtain ⟨a, ok, fo⟩ := w.desk i D e
  exact ⟨D.d, D.fr, D.S, D.ls, F i, ev, a, fun G' r s nr hr => k G' r ⟨F, (w.same s).add (dn_lns (w.no nr) hr)⟩⟩
/-- sorted, each once, and just these -/
def okTs (c l : List Str) : Bool := sortedS c && (decide c.Nodup && ((c.all fun x => decide (x ∈ l)) && l.all fun x => decide (x ∈ c)))
theorem okTs_eq {c l ts : List Str} (h : okTs c l = true) (s : sortedS ts = true) (n : ts.Nodup) (m : ∀ y, y ∈ ts ↔ y ∈ l) : ts = c := by
  unfold okTs at h
  simp only [Bool.and_eq_true, decide_eq_true_eq, List.all_eq_true] at h
  obtain ⟨h1, h2, h3, h4⟩ := h
  exact sorted_same s h1 n h2 fun y => ⟨fun z => h4 y ((m y).mp z), fun z => (m y).mpr (h3 y z)⟩
theorem dn_strs {P : Addr → Prop} {H : Hp} {a : Addr} {ts : List Str} (n : ¬ P a) (h : H a = some (.lst (ts.map V.str))) : Dn P H (.ref a) (dSs ts) :=
  .lst n h (by
    clear h n
    induction ts with
    | nil => exact .nil
    | cons x r ih => exact .cons (.str x) ih)
theorem Wd.likes (h : Wd K T A G Ds Os Ts Vs) {i : Nat} {D : Dk} {p t : Nat} (c : List Str) (e : Ds[i]? = some D) (ev : vs = [.ref D.d, .int p, .int t]) (hp : p < D.S.n) (t0 : 0 < t) (t1 : t ≤ D.fr.length) (hc : okTs c (D.S.found D.fr p t D.S.n) = true)
    (k : ∀ G' r, Wd K T A G' Ds Os Ts ((.ref r, dSs c) :: Vs) → Q (.ref r) G') : spDLikes K vs G Q E := by
  obtain ⟨F, w⟩ := h
  obtain ⟨a, ok, fo⟩ := w.desk i D e
  refine ⟨D.d, D.fr, D.S, D.ls, F i, p, t, ev, a, ok, fo, hp, t0, t1, fun G' r ts s nr hr so nd m => ?_⟩
  have et := okTs_eq hc so nd m
  subst et
  exact k G' r ⟨F, (w.same s).add (dn_strs (w.no nr) hr)⟩
theorem Wd.make (h : Wd K T A G Ds Os Ts Vs) {v : V} {fr : List Int} {C : Addr} (kn : Kn Vs v (dI fr)) (fo : FrOk fr) (ec : C = He.ga K "Desk")
    (k : ∀ G' d, Wd K T A G' (Ds ++ [⟨d, fr, De.none, []⟩]) Os Ts Vs → Q (.ref d) G') : ∀ x dx, G x = none → G dx = none → dx ≠ x → spDeskInit K [.ref x, v] (upd (upd G dx (.own x)) x (.ins C dx [])) (fun u H2 => u = .non ∧ Q (.ref x) H2) E := by
  intro x dx nx ndx ne
  subst ec
  obtain ⟨F, w⟩ := h
  obtain ⟨f, rfl, nf, hf⟩ := Dn.ls (kn.dn w)
  refine ⟨x, dx, f, fr, rfl, upd_same, ?_, fo, fun G' F' dk k2 f2 => ⟨rfl, ?_⟩⟩
  · unfold LsAt
    rw [upd_ne (ne_of_none hf nx), upd_ne (ne_of_none hf ndx)]
    exact hf
  have s : Same G G' := fun y o ey => k2 y o (ne_of_none ey nx) (by rw [upd_ne (ne_of_none ey nx), upd_ne (ne_of_none ey ndx)]; exact ey)
  have fn : ∀ y, F' y → G y = none := fun y fy => by
    rcases f2 y fy with z | z
    · rw [z]
      exact nx
    · cases ey : G y with
      | none => rfl
      | some u =>
        rw [upd_ne (ne_of_none ey nx), upd_ne (ne_of_none ey ndx), ey] at z
        cases z
  obtain ⟨F2, w2⟩ := w.made s dk fn fo
  exact k G' x ⟨F2, w2⟩
end
open LamX (ExtN Tabs CodeO TabS)
def txD (x : Str) : Bool := decide (1 ≤ x.length) && (decide (x.length ≤ 6) && x.cps.toList.all fun c => decide (97 ≤ c) && decide (c ≤ 122))
theorem txD_ok {x : Str} (h : txD x = true) : TxOk x := by
  unfold txD at h
  simp only [Bool.and_eq_true, decide_eq_true_eq, List.all_eq_true] at h
  exact ⟨h.1, h.2.1, fun c hc => h.2.2 c hc⟩
def seenD (fr : List Int) (S : De) (p t : Nat) : Option Int → Bool
  | some k => decide (0 < t) && (decide (0 ≤ k) && (match S.puts[k.toNat]? with
    | some v => decide (v.p = p) && decide (v.t = up fr t)
    | Option.none => false))
  | Option.none => decide (t = 0)
theorem seenD_ok {fr : List Int} {S : De} {p t : Nat} : ∀ {s : Option Int}, seenD fr S p t s = true → S.Seen fr p t s
  | Option.none, h => ⟨fun _ => rfl, fun z => by have := of_decide_eq_true h; omega⟩
  | some k, h => by
    unfold seenD at h
    simp only [Bool.and_eq_true, decide_eq_true_eq] at h
    obtain ⟨h1, h2, h3⟩ := h
    refine ⟨fun z => by omega, fun _ => ⟨k.toNat, by rw [Int.toNat_of_nonneg h2], ?_⟩⟩
    cases e : S.puts[k.toNat]? with
    | none => rw [e] at h3; cases h3
    | some v =>
      rw [e] at h3
      simp only [Bool.and_eq_true, decide_eq_true_eq] at h3
      exact ⟨v, rfl, h3.1, h3.2⟩
def putD (fr : List Int) (S : De) (L : List Line) (p t : Nat) (x : Str) (s o : Option Int) (k : Int) : Bool := decide (p < S.n) && (decide (t ≤ fr.length) && (txD x && (decide (o = S.now p t) && (seenD fr S p t s && (decide ((S.puts.length : Int) = k) && (decide (S.puts.length < 5000) && decide (L.length < 5000)))))))
def phraseD (S : De) (L : List Line) (x : Str) (n k : Int) : Bool := decide (S.n < 6) && (txD x && (decide ((S.n : Int) = n) && (decide ((S.puts.length : Int) = k) && (decide (S.puts.length < 5000) && decide (L.length < 5000)))))
def backD (fr : List Int) (S : De) (L : List Line) (p t : Nat) (k : Int) : Bool := decide (p < S.n) && (decide (t ≤ fr.length) && (decide ((if t = 0 then 1 else 0) < (S.lie p t).length) && (decide (S.now p t = some k) && decide (L.length < 5000))))
def fillD (fr : List Int) (S : De) (L : List Line) (t : Nat) : Bool := decide (0 < t) && (decide (t ≤ fr.length) && (decide (S.puts.length ≤ 4000) && decide (L.length ≤ 4000)))
def frD (fr : List Int) : Bool := decide (1 ≤ fr.length) && (decide (fr.length ≤ 7) && (List.range fr.length).all fun i => decide (0 ≤ fr.getD i 0) && decide (fr.getD i 0 ≤ (i : Int)))
theorem frD_ok {fr : List Int} (h : frD fr = true) : FrOk fr := by
  unfold frD at h
  simp only [Bool.and_eq_true, decide_eq_true_eq, List.all_eq_true] at h
  refine ⟨h.1, h.2.1, fun i x e => ?_⟩
  have hi := (List.getElem?_eq_some_iff.mp e).1
  have z := h.2.2 i (List.mem_range.mpr hi)
  rw [List.getD_eq_getElem?_getD, e] at z
  exact z
theorem DnAll.app {P : Addr → Prop} {H : Hp} : ∀ {us vs : List V} {ds es : List PyData}, DnAll P H us ds → DnAll P H vs es → DnAll P H (us ++ vs) (ds ++ es)
  | _, _, _, _, .nil, b => b
  | _, _, _, _, .cons x y, b => .cons x (y.app b)
section
variable {K : PySem.W.Frag} {T : List (Addr × Str)} {A G G' : Hp} {Ds : List Dk} {Os : List (Addr × List V × List PyData)} {Ts : List (Addr × List V)} {Vs : List (V × PyData)} {Q : VK} {E : XK} {vs : List V} {d : Addr} {fr : List Int} {S : De} {L : List Line}
theorem Wd.phraseE (h : Wd K T A G Ds Os Ts Vs) (i : Nat) (S' : De) (L' : List Line) (Ds' : List Dk) (n k : Int) {x : Str} (e : Ds[i]? = some ⟨d, fr, S, L⟩) (ev : vs = [.ref d, .str x]) (c : phraseD S L x n k = true) (eS : S' = S.more.lay S.n 0 x Option.none) (eL : L' = L ++ [.phrase S.n x k]) (eD : Ds' = Ds.set i ⟨d, fr, S', L'⟩)
    (q : ∀ G', Wd K T A G' Ds' Os Ts Vs → Q (.int n) G') : spPhrase K vs G Q E := by
  unfold phraseD at c
  simp only [Bool.and_eq_true, decide_eq_true_eq] at c
  obtain ⟨c1, c2, c3, c4, c5, c6⟩ := c
  subst eS eL eD c3 c4
  exact h.phrase e ev c1 (txD_ok c2) c5 c6 q
theorem Wd.putE (h : Wd K T A G Ds Os Ts Vs) (i : Nat) (S' : De) (L' : List Line) (Ds' : List Dk) (p t : Nat) (s o : Option Int) (k : Int) {x : Str} (e : Ds[i]? = some ⟨d, fr, S, L⟩) (ev : vs = [.ref d, .int p, .int t, .str x, oV s, oV o]) (c : putD fr S L p t x s o k = true) (eS : S' = S.lay p t x s) (eL : L' = L ++ [.put p t x s o k]) (eD : Ds' = Ds.set i ⟨d, fr, S', L'⟩)
    (q : ∀ G', Wd K T A G' Ds' Os Ts Vs → Q (.int k) G') : spPut K vs G Q E := by
  unfold putD at c
  simp only [Bool.and_eq_true, decide_eq_true_eq] at c
  obtain ⟨c1, c2, c3, c4, c5, c6, c7, c8⟩ := c
  subst eS eL eD c6
  exact h.put e ev ⟨c1, c2, txD_ok c3, c4, seenD_ok c5⟩ c7 c8 q
theorem Wd.backE (h : Wd K T A G Ds Os Ts Vs) (i : Nat) (S' : De) (L' : List Line) (Ds' : List Dk) (p t : Nat) (k : Int) (e : Ds[i]? = some ⟨d, fr, S, L⟩) (ev : vs = [.ref d, .int p, .int t]) (c : backD fr S L p t k = true) (eS : S' = S.off p t) (eL : L' = L ++ [.back p t k]) (eD : Ds' = Ds.set i ⟨d, fr, S', L'⟩)
    (q : ∀ G', Wd K T A G' Ds' Os Ts Vs → Q (.int k) G') : spBack K vs G Q E := by
  unfold backD at c
  simp only [Bool.and_eq_true, decide_eq_true_eq] at c
  obtain ⟨c1, c2, c3, c4, c5⟩ := c
  subst eS eL eD
  exact h.back e ev ⟨c1, c2, c3⟩ c4 c5 q
theorem Wd.fillX (h : Wd K T A G Ds Os Ts Vs) (i : Nat) (S' : De) (ls' L' : List Line) (Ds' : List Dk) (t : Nat) (ns : List Int) (e : Ds[i]? = some ⟨d, fr, S, L⟩) (ev : vs = [.ref d, .int t]) (c : fillD fr S L t = true) (ef : S.fillTo fr t S.n = (S', ns, ls')) (eL : L' = L ++ ls') (eD : Ds' = Ds.set i ⟨d, fr, S', L'⟩)
    (q : ∀ G' a, Wd K T A G' Ds' Os Ts ((.ref a, dI ns) :: Vs) → Q (.ref a) G') : spFill K vs G Q E := by
  unfold fillD at c
  simp only [Bool.and_eq_true, decide_eq_true_eq] at c
  obtain ⟨c1, c2, c3, c4⟩ := c
  subst eL eD
  exact h.fillE (D := ⟨d, fr, S, L⟩) e ev c1 c2 c3 c4 ef q
theorem Wd.nowE (h : Wd K T A G Ds Os Ts Vs) (i p t : Nat) (n : Int) (x : Str) (e : Ds[i]? = some ⟨d, fr, S, L⟩) (ev : vs = [.ref d, .int p, .int t]) (c : (decide (p < S.n) && (decide (t ≤ fr.length) && (decide (S.now p t = some n) && decide ((S.pt n).x = x)))) = true)
    (q : ∀ G' r, Wd K T A G' Ds Os Ts ((.ref r, .tuple [.int n, .str x]) :: Vs) → G' r = some (.tup [.int n, .str x]) → Q (.ref r) G') : spNowD K vs G Q E := by
  simp only [Bool.and_eq_true, decide_eq_true_eq] at c
  obtain ⟨c1, c2, c3, c4⟩ := c
  subst c4
  exact h.now e ev c1 c2 c3 q
theorem Wd.nowO (h : Wd K T A G Ds Os Ts Vs) (i p t : Nat) (e : Ds[i]? = some ⟨d, fr, S, L⟩) (ev : vs = [.ref d, .int p, .int t]) (c : (decide (p < S.n) && (decide (t ≤ fr.length) && decide (S.now p t = Option.none))) = true)
    (q : ∀ G', Wd K T A G' Ds Os Ts Vs → Q .non G') : spNowD K vs G Q E := by
  simp only [Bool.and_eq_true, decide_eq_true_eq] at c
  obtain ⟨c1, c2, c3⟩ := c
  exact h.nowN e ev c1 c2 c3 q
theorem Wd.all_putE (h : Wd K T A G Ds Os Ts Vs) (i p t : Nat) (e : Ds[i]? = some ⟨d, fr, S, L⟩) (ev : vs = [.ref d, .int p, .int t]) (c : (decide (p < S.n) && decide (t ≤ fr.length)) = true)
    (q : ∀ G' r, Wd K T A G' Ds Os Ts ((.ref r, dEs (S.ever p t)) :: Vs) → Q (.ref r) G') : spAllPutD K vs G Q E := by
  simp only [Bool.and_eq_true, decide_eq_true_eq] at c
  exact h.all_put e ev c.1 c.2 q
theorem Wd.rowE (h : Wd K T A G Ds Os Ts Vs) (i p : Nat) (e : Ds[i]? = some ⟨d, fr, S, L⟩) (ev : vs = [.ref d, .int p]) (c : decide (p < S.n) = true)
    (q : ∀ G' r, Wd K T A G' Ds Os Ts ((.ref r, dRow (S.row (fr.length + 1) p)) :: Vs) → Q (.ref r) G') : spRowD K vs G Q E := h.row e ev (of_decide_eq_true c) q
theorem Wd.oldE (h : Wd K T A G Ds Os Ts Vs) (i : Nat) (e : Ds[i]? = some ⟨d, fr, S, L⟩) (ev : vs = [.ref d])
    (q : ∀ G' r, Wd K T A G' Ds Os Ts ((.ref r, dPs (S.olds fr)) :: Vs) → Q (.ref r) G') : spOldD K vs G Q E := h.old e ev q
theorem Wd.taleE (h : Wd K T A G Ds Os Ts Vs) (i : Nat) (e : Ds[i]? = some ⟨d, fr, S, L⟩) (ev : vs = [.ref d])
    (q : ∀ G' r, Wd K T A G' Ds Os Ts ((.ref r, dLs L) :: Vs) → Q (.ref r) G') : spTaleD K vs G Q E := h.tale e ev q
theorem Wd.likesE (h : Wd K T A G Ds Os Ts Vs) (i p t : Nat) (ts : List Str) (e : Ds[i]? = some ⟨d, fr, S, L⟩) (ev : vs = [.ref d, .int p, .int t]) (c : (decide (p < S.n) && (decide (0 < t) && (decide (t ≤ fr.length) && okTs ts (S.found fr p t S.n)))) = true)
    (q : ∀ G' r, Wd K T A G' Ds Os Ts ((.ref r, dSs ts) :: Vs) → Q (.ref r) G') : spDLikes K vs G Q E := by
  simp only [Bool.and_eq_true, decide_eq_true_eq] at c
  obtain ⟨c1, c2, c3, c4⟩ := c
  exact h.likes ts e ev c1 c2 c3 c4 q
theorem Wd.makeE (h : Wd K T A G Ds Os Ts Vs) {v : V} {x dx : Addr} (fr : List Int) (Ds' : List Dk) (kn : Kn Vs v (dI fr)) (fo : FrOk fr) (eD : Ds' = Ds ++ [⟨x, fr, De.none, []⟩]) (nx : G x = none) (ndx : G dx = none) (ne : dx ≠ x)
    (q : ∀ G', Wd K T A G' Ds' Os Ts Vs → Q .non G') : spDeskInit K [.ref x, v] (upd (upd G dx (.own x)) x (.ins (He.ga K "Desk") dx [])) Q E := by
  subst eD
  have z := h.make (Q := fun r G' => (∃ y, r = .ref y ∧ y = x) → Q .non G') (C := He.ga K "Desk") (E := E) kn fo rfl (fun G' y w => fun ⟨y', e1, e2⟩ => by
    cases e1
    subst e2
    exact q G' w) x dx nx ndx ne
  obtain ⟨y, dy, f, fr', e1, e2, e3, e4, k⟩ := z
  refine ⟨y, dy, f, fr', e1, e2, e3, e4, fun G' F' a b c => ?_⟩
  have := (k G' F' a b c).2
  exact this ⟨x, rfl, rfl⟩
theorem Wd.cat (h : Wd K T A G Ds Os Ts Vs) {a b : V} {xs ys : List PyData} (ka : Kn Vs a (.list xs)) (kb : Kn Vs b (.list ys)) (few : decide (xs.length + ys.length ≤ 5000) = true)
    (q : ∀ G' r, Wd K T A G' Ds Os Ts ((.ref r, .list (xs ++ ys)) :: Vs) → Q (.ref r) G') : rCat a b G Q := by
  obtain ⟨F, w⟩ := h
  have da := ka.dn w
  have db := kb.dn w
  cases da with
  | lst na ea ra =>
    cases db with
    | lst nb eb rb =>
      refine ⟨_, _, _, _, rfl, rfl, ea, eb, ?_, fun r nr => q _ r ⟨F, (w.same (same_upd nr)).add (.lst (w.no nr) upd_same ?_)⟩⟩
      · rw [ra.len, rb.len]
        exact Nat.le_of_lt (small5000 (by have := of_decide_eq_true few; omega))
      · exact (DnAll.app ra rb).keep (fun a xs n ea => ⟨n, same_upd nr _ _ ea⟩) (fun a xs ea => same_upd nr _ _ ea)
theorem Wd.neF (h : Wd K T A G Ds Os Ts Vs) {x y : V} {dx dy : PyData} (kx : Kn Vs x dx) (ky : Kn Vs y dy) (c : (SeqAt.shaped dx && (SeqAt.shaped dy && PyData.eqv dx dy)) = true) (q : Q (.bl false) G) : rNeD K x y G Q := by
  simp only [Bool.and_eq_true] at c
  refine ⟨dx, dy, h.dp kx, h.dp ky, c.1, c.2.1, ?_⟩
  rw [c.2.2]
  exact q
theorem Wd.eqT (h : Wd K T A G Ds Os Ts Vs) {x y : V} {dx dy : PyData} (kx : Kn Vs x dx) (ky : Kn Vs y dy) (c : (SeqAt.shaped dx && (SeqAt.shaped dy && PyData.eqv dx dy)) = true) (q : Q (.bl true) G) : rEqD K x y G Q := by
  simp only [Bool.and_eq_true] at c
  refine ⟨dx, dy, h.dp kx, h.dp ky, c.1, c.2.1, ?_⟩
  rw [c.2.2]
  exact q
theorem neS {x y : V} {H : Hp} (s : scal x y = true) (e : x = y) (q : Q (.bl false) H) : rNe x y H Q := by
  refine ⟨s, ?_⟩
  rw [decide_eq_true e]
  exact q
theorem eqS {x y : V} {H : Hp} (s : scal x y = true) (e : x = y) (q : Q (.bl true) H) : rEq x y H Q := by
  refine ⟨s, ?_⟩
  rw [decide_eq_true e]
  exact q
theorem Wd.lastE (h : Wd K T A G Ds Os Ts Vs) {a : Addr} {ds : List PyData} (d : PyData) (k : Kn Vs (.ref a) (.list ds)) (e : ds.getLast? = some d) (q : ∀ v, Wd K T A G Ds Os Ts ((v, d) :: Vs) → Q v G) : rIxL K (.ref a) (.int (-1)) G Q := by
  obtain ⟨xs, v, e1, e2, w⟩ := h.last k e
  exact ⟨a, xs, _, v, rfl, rfl, SqL.of e1, e2, q v w⟩
theorem Wd.nthE (h : Wd K T A G Ds Os Ts Vs) {a : Addr} {ds : List PyData} (d : PyData) (j : Nat) {ji : Int} (ej : ji = (j : Int)) (k : Kn Vs (.ref a) (.list ds)) (e : ds[j]? = some d) (q : ∀ v, Wd K T A G Ds Os Ts ((v, d) :: Vs) → Q v G) : rIxL K (.ref a) (.int ji) G Q := by
  subst ej
  obtain ⟨xs, v, e1, e2, w⟩ := h.nth j k e
  exact ⟨a, xs, _, v, rfl, rfl, SqL.of e1, e2, q v w⟩
/-- a list of ours, changed -/
theorem Wd.chg (h : Wd K T A G Ds [] Ts Vs) {r : Addr} {ds : List PyData} {ys : List V} (k : Kn Vs (.ref r) (.list ds)) : Wd K T A (upd G r (.lst ys)) Ds [] Ts [] := by
  obtain ⟨F, w⟩ := h
  have dr := k.dn w
  cases dr with
  | lst nr er rr =>
    have e : ∀ x o, x ≠ r → G x = some o → (upd G r (.lst ys)) x = some o := fun x o n q => by rw [upd_ne n]; exact q
    have nf : ∀ {i x}, i < Ds.length → F i x → x ≠ r := fun {i x} hi fx z => nr (.inr (.inl ⟨i, hi, by rw [← z]; exact fx⟩))
    have tup : ∀ a xs, G a = some (.tup xs) → (upd G r (.lst ys)) a = some (.tup xs) := fun a xs ea => e _ _ (ne_of ea er fun z => nomatch z) ea
    refine ⟨F, fun b o eb nb => ?_, ?_, fun i D' z' => ?_, w.new, w.dis, fun i x hi fx => ?_, (fun o ho => nomatch ho), .nil, (fun p hp => tup _ _ (w.tps p hp)), fun p hp => nomatch hp⟩
    · refine e _ _ (fun q => nr (.inl ⟨o, by rw [← q]; exact eb, nb⟩)) (w.ext b o eb nb)
    · intro p hp
      obtain ⟨ps, a, b, c⟩ := w.tab p hp
      refine ⟨ps, e _ _ (ne_of a er fun z => nomatch z) a, b, fun pos cv hc => ?_⟩
      obtain ⟨c', e1, e2⟩ := c pos cv hc
      exact ⟨c', e1, e _ _ (ne_of e2 er fun z => nomatch z) e2⟩
    · obtain ⟨a, b, c⟩ := w.desk i D' z'
      exact ⟨a.keep (fun x o fx ex => e _ _ (nf (List.getElem?_eq_some_iff.mp z').1 fx) ex) tup, b, c⟩
    · obtain ⟨o, eo, po⟩ := w.pl i x hi fx
      exact ⟨o, e _ _ (nf hi fx) eo, po⟩
theorem Wd.sc0 (h : Wd K T A G Ds Os Ts Vs) {v u : V} {d : PyData} (k : Kn Vs v d) (e : scV d = some u) : v = u := by
  obtain ⟨F, w⟩ := h
  exact (k.dn w).sc e
theorem DnAll.rep {P : Addr → Prop} {H : Hp} {us : List V} {ds : List PyData} (h : DnAll P H us ds) : ∀ n : Nat, DnAll P H (List.replicate n us).flatten (List.replicate n ds).flatten
  | 0 => .nil
  | n + 1 => by
    rw [List.replicate_succ, List.replicate_succ, List.flatten_cons, List.flatten_cons]
    exact h.app (h.rep n)
theorem Wd.rep (h : Wd K T A G Ds Os Ts Vs) {a : V} {xs : List PyData} (ka : Kn Vs a (.list xs)) (n : Nat) (few : (decide (n ≤ 50) && decide (xs.length ≤ 50)) = true)
    (q : ∀ G' r, Wd K T A G' Ds Os Ts ((.ref r, .list (List.replicate n xs).flatten) :: Vs) → Q (.ref r) G') : rRep a (.int (n : Int)) G Q := by
  simp only [Bool.and_eq_true, decide_eq_true_eq] at few
  obtain ⟨F, w⟩ := h
  have da := ka.dn w
  cases da with
  | lst na ea ra =>
    refine ⟨_, _, _, rfl, rfl, ea, by omega, by omega, ?_, fun r nr => q _ r ⟨F, (w.same (same_upd nr)).add (.lst (w.no nr) upd_same ?_)⟩⟩
    · rw [ra.len, Int.toNat_natCast]
      have : xs.length * n ≤ 50 * 50 := Nat.mul_le_mul few.2 few.1
      exact Nat.le_of_lt (small5000 (by omega))
    · rw [Int.toNat_natCast]
      exact (ra.rep n).keep (fun a xs n ea => ⟨n, same_upd nr _ _ ea⟩) (fun a xs ea => same_upd nr _ _ ea)
end
theorem nilI {σ : L2.St} {H : Hp} {Q : List V → Hp → Prop} (h : Q [] H) : tNil σ H Q := h
theorem consI {ta : TE} {tr : TA} {σ : L2.St} {H : Hp} {Q : List V → Hp → Prop} (h : ta σ H fun x H1 => tr σ H1 fun xs H2 => Q (x :: xs) H2) : tCons ta tr σ H Q := h
theorem cI {v : V} {σ : L2.St} {H : Hp} {Q : VK} (h : Q v H) : tC v σ H Q := h
open LamX (ExtN Tabs CodeO TabS)
mutual
/-- no list within -/
def flatD : PyData → Bool
  | .none => true
  | .bool _ => true
  | .int _ => true
  | .str _ => true
  | .tuple l => flatDs l
  | _ => false
def flatDs : List PyData → Bool
  | [] => true
  | d :: r => flatD d && flatDs r
end
mutual
theorem Dn.flat {P P' : Addr → Prop} {H : Hp} : ∀ {v : V} {d : PyData}, Dn P H v d → flatD d = true → Dn P' H v d
  | _, _, .non, _ => .non
  | _, _, .bl b, _ => .bl b
  | _, _, .int i, _ => .int i
  | _, _, .str x, _ => .str x
  | _, _, .lst _ _ _, h => by simp [flatD] at h
  | _, _, .tup e r, h => .tup e (r.flat (by simpa [flatD] using h))
theorem DnAll.flat {P P' : Addr → Prop} {H : Hp} : ∀ {vs : List V} {ds : List PyData}, DnAll P H vs ds → flatDs ds = true → DnAll P' H vs ds
  | _, _, .nil, _ => .nil
  | _, _, .cons a b, h => by
    rw [flatDs, Bool.and_eq_true] at h
    exact .cons (a.flat h.1) (b.flat h.2)
end
theorem DnAll.zip {P : Addr → Prop} {H : Hp} : ∀ {vs : List V} {ds : List PyData}, DnAll P H vs ds → ∀ p ∈ vs.zip ds, Dn P H p.1 p.2
  | _, _, .nil, p, hp => nomatch hp
  | _, _, .cons a b, p, hp => by
    rw [List.zip_cons_cons] at hp
    rcases List.mem_cons.mp hp with rfl | hp
    · exact a
    · exact b.zip p hp
theorem DnAll.getAt {P : Addr → Prop} {H : Hp} : ∀ {vs : List V} {ds : List PyData} {d : PyData} {j : Nat}, DnAll P H vs ds → ds[j]? = some d → ∃ v, vs[j]? = some v ∧ Dn P H v d
  | _, _, _, _, .nil, e => by cases e
  | _, _, _, 0, .cons a b, e => by cases (Option.some.inj e); exact ⟨_, rfl, a⟩
  | _, _, _, j + 1, .cons a b, e => by
    obtain ⟨v, e1, e2⟩ := b.getAt (j := j) e
    exact ⟨v, e1, e2⟩
section
variable {K : PySem.W.Frag} {T : List (Addr × Str)} {A G G' : Hp} {Ds : List Dk} {Os : List (Addr × List V × List PyData)} {Ts : List (Addr × List V)} {Vs : List (V × PyData)} {Q : VK} {E : XK} {vs : List V}
theorem Wd.hold (h : Wd K T A G Ds [] Ts Vs) {a : Addr} (ds : List PyData) (k : Kn Vs (.ref a) (.list ds)) (c : flatDs ds = true) : ∃ xs, xs.length = ds.length ∧ Wd K T A G Ds [(a, xs, ds)] Ts (xs.zip ds) := by
  obtain ⟨F, w⟩ := h
  have da := k.dn w
  cases da with
  | lst na ea ra =>
    refine ⟨_, ra.len, F, w.ext, w.tab, w.desk, w.new, w.dis, w.pl, fun o ho => ?_, List.pairwise_singleton _ _, w.tps, fun p hp => ?_⟩
    · rw [List.mem_singleton.mp ho]
      refine ⟨ea, ra.flat c, fun z => na (.inr (.inl z)), fun u eu => Classical.byContradiction fun n => na (.inl ⟨u, eu, fun ps z => n ⟨ps, z⟩⟩)⟩
    · exact (ra.flat (P' := Pw A F Ds.length [(a, _, ds)]) c).zip p hp
theorem Wd.ownA (h : Wd K T A G Ds Os Ts Vs) {i : Nat} {a : Addr} {xs : List V} {ds : List PyData} (e : Os[i]? = some (a, xs, ds)) : SqL K G a xs := by
  obtain ⟨F, w⟩ := h
  exact SqL.of (w.own _ (List.mem_of_getElem? e)).1
theorem Wd.ixT (h : Wd K T A G Ds Os Ts Vs) {v : V} {ds : List PyData} (d : PyData) (j : Nat) (ji : Int) (k : Kn Vs v (.tuple ds)) (ej : ji = (j : Int) ∨ (ji = -1 ∧ j + 1 = ds.length)) (e : ds[j]? = some d) (q : ∀ u, Wd K T A G Ds Os Ts ((u, d) :: Vs) → Q u G) : rIxT K v (.int ji) G Q := by
  obtain ⟨F, w⟩ := h
  have da := k.dn w
  cases da with
  | tup ea ra =>
    obtain ⟨u, e1, e2⟩ := ra.getAt e
    refine ⟨_, _, ji, u, rfl, rfl, SqT.of ea, ?_, q u ⟨F, w.add e2⟩⟩
    rcases ej with rfl | ⟨rfl, el⟩
    · exact atI_nat e1
    · have hl := ra.len
      rename_i xs
      obtain ⟨ys, y, rfl⟩ : ∃ ys y, xs = ys ++ [y] := by
        have hne : xs ≠ [] := fun z => by rw [z] at hl; simp at hl; omega
        exact ⟨xs.dropLast, xs.getLast hne, (List.dropLast_concat_getLast hne).symm⟩
      rw [atI_last]
      rw [List.length_append, List.length_singleton] at hl
      have : j = ys.length := by omega
      rw [this, List.getElem?_append_right (Nat.le_refl _), Nat.sub_self] at e1
      exact e1
end
def rLenS (K : PySem.W.Frag) : List V → Hp → VK → Prop := fun xs H Q => ∃ p ys, xs = [.ref p] ∧ (SqL K H p ys ∨ SqT K H p ys) ∧ Q (.int ys.length) H
theorem yesI {σ : L2.St} {H : Hp} {Q : Bool → Hp → Prop} (h : Q true H) : tYes σ H Q := h


end PD

namespace PD
open PySem PySem.Spec PyProof.Rows L2

/-! Phrasedesk, law_k02: a desk and the law's own state, where tables grow -/
open LamX (ExtN Tabs CodeO TabS)
--# here
theorem Here.ext {H H' : Hp} {o l d : Addr} {S : De} (h : Here H o l d S) (e : ExtN H H') : Here H' o l d S := by
  obtain ⟨vs, h1, _⟩ := h.puts
  obtain ⟨kvs, h3, _, h5⟩ := h.lie
  have no : ∀ {a : Addr} {u : HO}, H a = some u → (∀ ps, u ≠ .tbl ps) → ¬ ∃ ps, H a = some (.tbl ps) := fun {a u} ea n ⟨ps, z⟩ => by
    rw [ea] at z
    exact n ps (Option.some.inj z)
  refine h.frame (R := fun a => ∃ ps, H a = some (.tbl ps)) (fun a x n ea => e a x ea fun ps z => n ⟨ps, by rw [ea, z]⟩) (no h.top fun _ z => nomatch z) (no h1 fun _ z => nomatch z) (no h3 fun _ z => nomatch z) ?_ ?_
  · rintro a xs ⟨ps, z⟩ y
    rw [z] at y
    cases y
  · intro kvs' ek p t a ev
    rw [h3] at ek
    cases (HO.dT.inj (Option.some.inj ek))
    have y := h5 p t
    rw [ev] at y
    obtain ⟨c, e1, _, e2⟩ := y
    cases e1
    exact no e2 fun _ z => nomatch z
theorem LnAt.ext {H H' : Hp} {a : Addr} {l : List Line} (h : LnAt H a l) (e : ExtN H H') : LnAt H' a l := by
  obtain ⟨vs, h1, h2⟩ := h
  exact ⟨vs, e _ _ h1 (fun _ z => nomatch z), h2.mono fun _ _ ⟨q, x, y⟩ => ⟨q, x, e _ _ y fun _ z => nomatch z⟩⟩
/-- a desk as a world of its own, beside the law's own state -/
theorem Both.world {K : PySem.W.Frag} {T : List (Addr × Str)} {H H' : Hp} {d o l e tl : Addr} {fr : List Int} {S : De} {ls : List Line} {F : Addr → Prop} (b : Both K H H' d o l e tl fr S ls F) (fo : FrOk fr) (t : Tabs T H') :
    ∃ A : Hp, Wd K T A H' [⟨d, fr, S, ls⟩] [] [] [] ∧ Here A o l e S ∧ LnAt A tl ls ∧ Same H A := by
  obtain ⟨F2, d2, sub, pl2⟩ := b.desk.shrink
  classical
  have ou : ∀ a x, ¬ F2 a → H' a = some x → (fun x => if F2 x then none else H' x : Hp) a = some x := fun a x n e => by
    show (if F2 a then none else H' a) = _
    rw [if_neg n]
    exact e
  have nt : ∀ a xs, F2 a → H' a ≠ some (.tup xs) := fun a xs fa z => by
    obtain ⟨u, eu, pu⟩ := pl2 a fa
    rw [z] at eu
    exact pu.t xs (Option.some.inj eu).symm
  refine ⟨fun x => if F2 x then none else H' x, ⟨fun _ => F2, ?_, t, ?_, ?_, ?_, ?_, (fun o ho => nomatch ho), .nil, (fun p hp => nomatch hp), (fun p hp => nomatch hp)⟩, ?_, ?_, ?_⟩
  · intro a u ea _
    by_cases c : F2 a
    · have ea' : (if F2 a then none else H' a) = some u := ea
      rw [if_pos c] at ea'
      cases ea'
    · have ea' : (if F2 a then none else H' a) = some u := ea
      rw [if_neg c] at ea'
      exact ea'
  · intro i D z
    match i, z with
    | 0, z =>
      cases (Option.some.inj z)
      exact ⟨d2, b.ok, fo⟩
  · intro i x u hi fx ax
    have ax' : (if F2 x then none else H' x) = some u := ax
    rw [if_pos fx] at ax'
    cases ax'
  · intro i j x hi hj ne
    have h1 : i < 1 := hi
    have h2 : j < 1 := hj
    omega
  · exact fun i x hi fx => pl2 x fx
  · refine b.here.frame (R := F2) ou (fun z => b.no (sub _ z)) (fun z => b.nl (sub _ z)) (fun z => b.ne (sub _ z)) nt ?_
    intro kvs ek p t a ev fa
    exact b.av kvs ek p t a ev (sub _ fa)
  · obtain ⟨vs, h1, h2⟩ := b.tale
    exact ⟨vs, ou _ _ (fun z => b.nt (sub _ z)) h1, h2.mono fun _ _ ⟨q, x, y⟩ => ⟨q, x, ou _ _ (fun z => nt _ _ z y) y⟩⟩
  · intro x u ex
    exact ou x u (fun z => by rw [b.new x (.inl (sub _ z))] at ex; cases ex) (b.same x u ex)
section
variable {K : PySem.W.Frag} {T : List (Addr × Str)} {A G G' : Hp} {Ds : List Dk} {Os : List (Addr × List V × List PyData)} {Ts : List (Addr × List V)} {Vs : List (V × PyData)} {Q : VK} {E : XK} {vs : List V} {d : Addr} {fr : List Int} {S : De} {L : List Line}
theorem Wd.keepT (h : Wd K T A G Ds Os Ts Vs) (e : ExtN G G') (t : Tabs T G') : Wd K T A G' Ds Os Ts Vs := let ⟨F, w⟩ := h; ⟨F, w.keep e t⟩
theorem Wd.ok (h : Wd K T A G Ds Os Ts Vs) {i : Nat} (e : Ds[i]? = some ⟨d, fr, S, L⟩) : S.Ok fr ∧ FrOk fr := by
  obtain ⟨F, w⟩ := h
  exact (w.desk i _ e).2
theorem Wd.putOver (h : Wd K T A G Ds Os Ts Vs) {i p t : Nat} {x : Str} {s o : Option Int} (e : Ds[i]? = some ⟨d, fr, S, L⟩) (ev : vs = [.ref d, .int p, .int t, .str x, oV s, oV o]) (hp : p < S.n) (ht : t ≤ fr.length) (tx : TxOk x) (sn : S.Seen fr p t s) (ne : o ≠ S.now p t)
    (q : ∀ G', Wd K T A G' Ds Os Ts Vs → E (.ref (He.ga K "Overtaken")) none G') : spPutOver K vs G Q E := by
  obtain ⟨F, w⟩ := h
  obtain ⟨a, ok, fo⟩ := w.desk i _ e
  exact ⟨d, fr, S, L, F i, p, t, x, s, o, ev, a, fo, hp, ht, tx, sn, ne, fun H' s' => q H' ⟨F, w.same s'⟩⟩
theorem Wd.backNone (h : Wd K T A G Ds Os Ts Vs) {i p t : Nat} (e : Ds[i]? = some ⟨d, fr, S, L⟩) (ev : vs = [.ref d, .int p, .int t]) (hp : p < S.n) (ht : t ≤ fr.length) (hl : (S.lie p t).length ≤ (if t = 0 then 1 else 0))
    (q : ∀ G', Wd K T A G' Ds Os Ts Vs → E (.ref (He.ga K "Nothing")) none G') : spBackNone K vs G Q E := by
  obtain ⟨F, w⟩ := h
  obtain ⟨a, ok, fo⟩ := w.desk i _ e
  exact ⟨d, fr, S, L, F i, p, t, ev, a, hp, ht, hl, fun H' s' => q H' ⟨F, w.same s'⟩⟩
/-- all that is told so far, set down as what was there -/
theorem Wd.rebase (h : Wd K T A G Ds [] Ts Vs) : ∃ A' : Hp, Wd K T A' G Ds [] [] [] ∧ ExtN A A' ∧ (∀ p ∈ Vs, Dn (fun _ => False) A' p.1 p.2) ∧ ∀ p ∈ Ts, A' p.1 = some (.tup p.2) := by
  obtain ⟨F, w⟩ := h
  classical
  have ou : ∀ a x, ¬ (∃ i, i < Ds.length ∧ F i a) → G a = some x → (fun x => if ∃ i, i < Ds.length ∧ F i x then none else G x : Hp) a = some x := fun a x n e => by
    show (if _ then none else G a) = _
    rw [if_neg n]
    exact e
  have inn : ∀ a u, (fun x => if ∃ i, i < Ds.length ∧ F i x then none else G x : Hp) a = some u → (¬ ∃ i, i < Ds.length ∧ F i a) ∧ G a = some u := fun a u e => by
    have e' : (if ∃ i, i < Ds.length ∧ F i a then none else G a) = some u := e
    by_cases c : ∃ i, i < Ds.length ∧ F i a
    · rw [if_pos c] at e'
      cases e'
    · rw [if_neg c] at e'
      exact ⟨c, e'⟩
  have tp : ∀ a xs, G a = some (.tup xs) → ¬ ∃ i, i < Ds.length ∧ F i a := fun a xs e ⟨i, hi, fx⟩ => by
    obtain ⟨u, eu, pu⟩ := w.pl i a hi fx
    rw [e] at eu
    exact pu.t xs (Option.some.inj eu).symm
  refine ⟨fun x => if ∃ i, i < Ds.length ∧ F i x then none else G x, ⟨F, fun a u ea _ => (inn a u ea).2, w.tab, w.desk, ?_, w.dis, w.pl, (fun o ho => nomatch ho), .nil, (fun p hp => nomatch hp), (fun p hp => nomatch hp)⟩, ?_, ?_, ?_⟩
  · intro i x u hi fx ax
    exact absurd ⟨i, hi, fx⟩ (inn x u ax).1
  · intro a u ea na
    refine ou a u ?_ (w.ext a u ea na)
    rintro ⟨i, hi, fx⟩
    obtain ⟨ps, ep⟩ := w.new i a u hi fx ea
    exact na ps ep
  · intro p hp
    exact (w.dat p hp).keep (fun a xs n ea => ⟨fun z => z, ou a _ (fun z => n (.inr (.inl z))) ea⟩) (fun a xs ea => ou a _ (tp a xs ea) ea)
  · intro p hp
    exact ou _ _ (tp _ _ (w.tps p hp)) (w.tps p hp)
end
theorem small100k {n : Nat} (h : n < 100000) : n < sizeLine := Nat.lt_of_lt_of_le h (by decide)

end PD

namespace PD
open PySem PySem.Spec PyProof.Rows L2

/-! Phrasedesk, law_k02: taken back, of a long tale; states -/
open LamX (ExtN Tabs CodeO TabS)
--# Desk.back long
def spBackL (K : PySem.W.Frag) : Sp := fun vs H Q _ => ∃ (d : Addr) (fr : List Int) (S : De) (ls : List Line) (F : Addr → Prop) (p t : Nat) (k : Int), vs = [.ref d, .int p, .int t] ∧ DeK K H d fr S ls F ∧ S.May fr (.back p t) ∧ S.now p t = some k ∧ ls.length < 50000 ∧
  Goes (He.ga K "Desk") (He.ga K "Past") d fr H F (S.off p t) (ls ++ [.back p t k]) (Q (.int k))
theorem c_Desk_backL {P : Program} {w : World} {K : PySem.W.Frag} {mg : Str → Option Value} {base : Heap} (T : Tx K mg) : C8.Met P w K mg base 6 (He.ga K "Desk") "back" (spBackL K) [] := by
  refine metD T.F_Desk_back T.k_Desk T.m_Desk_back (fun _ _ _ _ _ _ us hl => match us, hl with | [_, _, _], _ => rfl) sc_Desk_back (fun vs H Q E h => ?_) (fun cdv A outer s H vs Q E hr h => ?_)
  · obtain ⟨d, fr, S, ls, F, p, t, k, rfl, _⟩ := h
    rfl
  · obtain ⟨d, fr, S, ls, F, p, t, k, rfl, hD, may, ek, lw, q⟩ := h
    refine ⟨_, (pss_cons (ps_expr (C8.pe_mt (c_Desk_check_place T) hr (by decide) (pv 0) (pa_cons (pv 1) (pa_cons (pv 2) pa_nil))))
    (pss_cons (ps_if (pt_not (pt_val (C8.pe_mt (c_Past_can_take_off T) hr (by decide) (pe_fld (pv 0) (by rfl)) (pa_cons (pv 1) (pa_cons (pv 2) pa_nil)))))
      (pss_one ps_never)
      pss_nil)
    (pss_cons (ps_set (i := 3) sc_Desk_back.nd rfl (Or.inl rfl) (C8.pe_mt (c_Past_take_off T) hr (by decide) (pe_fld (pv 0) (by rfl)) (pa_cons (pv 1) (pa_cons (pv 2) pa_nil))))
    (pss_cons (ps_expr (pe_bm PySem.F.plainAttrs_list PySem.F.slot_list_append PySem.F.type_list_append mt_append (pe_fld (pv 0) (by rfl)) (pa_cons (pe_tup (pa_cons pe_str (pa_cons (pv 1) (pa_cons (pv 2) (pa_cons (pv 3) pa_nil))))) pa_nil)))
    (pss_one (ps_ret (pv 3))))))), ?_⟩
    obtain ⟨hp, ht, hl⟩ := may
    obtain ⟨B, hB, hF, h3⟩ := id hD
    refine ⟨_, rfl, d, _, _, rfl, hB.obj, rfl, _, rfl, _, rfl, d, fr, S, ls, F, p, t, rfl, hD, hp, ht, ?_⟩
    refine ⟨_, rfl, d, _, _, _, _, rfl, hB.obj, T.k_Desk, T.n_Desk_past, df_past _ _, B.p, _, _, rfl, hB.past.raw.obj, rfl, _, rfl, _, rfl, B.p, fr, S, B.A, p, t, rfl, hB.past, hp, ht, fun H1 s1 => ⟨true, by rw [decide_eq_true hl], iteF ?_⟩⟩
    have hB1 : DeskAt H1 (He.ga K "Desk") (He.ga K "Past") d fr S ls B := hB.keep (fun x o _ e => s1 _ _ e) (fun _ _ e => s1 _ _ e)
    refine ⟨_, rfl, d, _, _, _, _, rfl, hB1.obj, T.k_Desk, T.n_Desk_past, df_past _ _, B.p, _, _, rfl, hB1.past.raw.obj, rfl, _, rfl, _, rfl, B.p, fr, S, B.A, p, t, k, rfl, hB1.past, hp, ht, ek, fun H4 hP4 o4 => ?_⟩
    obtain ⟨vs, hv, hal⟩ := hB1.lines
    have hd4 := o4.out _ _ hB1.nd hB1.obj
    have hL4 := o4.out _ _ hB1.nL hv
    refine ⟨_, rfl, d, _, _, _, _, rfl, hd4, T.k_Desk, T.n_Desk_lines, df_lines _ _, .inl ⟨rfl, _, SqL.of hL4⟩, _, rfl, _, rfl, _, rfl, (by show 4 ≤ sizeLine; decide), fun b nb => ?_⟩
    obtain ⟨hl5, hB5⟩ := hB1.line (B' := B) (n := .back p t k) (q := b) o4 hP4 rfl rfl rfl (fun x z => .inl z) hv upd_same nb
    refine ⟨B.L, _, _, rfl, rfl, hl5, by rw [hal.len]; exact small100k (by omega), ?_⟩
    refine ⟨_, rfl, q _ _ (desk_of hB5) ?_ ?_⟩
    · have o5 := (o4.same (same_upd nb (o := .tup (Line.back p t k).vals))).mono (G := F) fun x z => hF x (.inr (.inr z))
      have o6 := o5.set (y := B.L) (o := .lst (vs ++ [V.ref b])) (hF _ (.inr (.inl rfl)))
      exact (only_same s1).trans o6
    · exact fun x z => .inl (hF x z)
theorem Wd.backL {K : PySem.W.Frag} {T : List (Addr × Str)} {A G : Hp} {Ds : List Dk} {Os : List (Addr × List V × List PyData)} {Ts : List (Addr × List V)} {Vs : List (V × PyData)} {Q : VK} {E : XK} {vs : List V} {d : Addr} {fr : List Int} {S : De} {L : List Line} (h : Wd K T A G Ds Os Ts Vs) {i p t : Nat} {n : Int} (e : Ds[i]? = some ⟨d, fr, S, L⟩) (ev : vs = [.ref d, .int p, .int t]) (m : S.May fr (.back p t)) (en : S.now p t = some n) (l2 : L.length < 50000)
    (k : ∀ G', Wd K T A G' (Ds.set i ⟨d, fr, S.off p t, L ++ [.back p t n]⟩) Os Ts Vs → Q (.int n) G') : spBackL K vs G Q E := by
  obtain ⟨F, w⟩ := h
  obtain ⟨a, ok, fo⟩ := w.desk i _ e
  refine ⟨d, fr, S, L, F i, p, t, n, ev, a, m, en, l2, fun G' F' dk on ft => ?_⟩
  obtain ⟨F2, w2, _⟩ := w.deed e dk on ft (ok.come fo m).1
  exact k G' ⟨F2, w2⟩
/-- the lying ones that are left at a place, c of them -/
structure Lft (S0 S : De) (p t c : Nat) : Prop where
  n : S.n = S0.n
  puts : S.puts = S0.puts
  here : S.lie p t = (S0.lie p t).take c
theorem off_other {S : De} {p t p' t' : Nat} (h : ¬ (p' = p ∧ t' = t)) : (S.off p t).lie p' t' = S.lie p' t' := by
  show setL S.lie p t _ p' t' = _
  unfold setL
  rw [if_neg h]
theorem off_here {S : De} {p t : Nat} : (S.off p t).lie p t = (S.lie p t).dropLast := by
  show setL S.lie p t _ p t = _
  unfold setL
  rw [if_pos ⟨rfl, rfl⟩]
theorem Lft.off {S0 S : De} {p t c : Nat} (h : Lft S0 S p t (c + 1)) (hc : c + 1 ≤ (S0.lie p t).length) : Lft S0 (S.off p t) p t c := by
  refine ⟨h.n, h.puts, ?_⟩
  rw [off_here, h.here, List.dropLast_eq_take, List.length_take, List.take_take]
  congr 1
  omega
theorem Lft.now {S0 S : De} {p t c : Nat} (h : Lft S0 S p t (c + 1)) (hc : c + 1 ≤ (S0.lie p t).length) : S.now p t = (S0.lie p t)[c]? := by
  unfold De.now
  rw [h.here, List.getLast?_eq_getElem?, List.length_take, List.getElem?_take, if_pos (by omega)]
  congr 1
  omega
theorem Lft.ever {S0 S : De} {p t c : Nat} (h : Lft S0 S p t c) (p' t' : Nat) : S.ever p' t' = S0.ever p' t' := by
  unfold De.ever
  rw [h.puts]
theorem Lft.pt {S0 S : De} {p t c : Nat} (h : Lft S0 S p t c) (k : Int) : S.pt k = S0.pt k := by
  unfold De.pt
  rw [h.puts]
theorem DnAll.evs {P : Addr → Prop} {H : Hp} : ∀ {l : List (Int × Str)} {vs : List V}, DnAll P H vs (l.map dE) → All2 (EvV H) vs l
  | [], _, h => by cases h; exact All2.nil
  | x :: l, _, h => by
    rw [List.map_cons] at h
    cases h with
    | cons a b =>
      have ih := DnAll.evs b
      unfold dE at a
      cases a with
      | tup ea r =>
        cases r with
        | cons r1 r2 =>
          cases r1
          cases r2 with
          | cons r3 r4 =>
            cases r3
            cases r4
            exact All2.cons ⟨_, rfl, ea⟩ ih
theorem Dn.evs {P : Addr → Prop} {H : Hp} {a : Addr} {l : List (Int × Str)} (h : Dn P H (.ref a) (dEs l)) : EvAt H a l := by
  unfold dEs at h
  cases h with
  | lst _ ea r => exact ⟨_, ea, r.evs⟩
theorem EvAt.ext {H H' : Hp} {a : Addr} {l : List (Int × Str)} (h : EvAt H a l) (e : ExtN H H') : EvAt H' a l := by
  obtain ⟨vs, h1, h2⟩ := h
  exact ⟨vs, e _ _ h1 (fun _ z => nomatch z), h2.mono fun _ _ ⟨q, x, y⟩ => ⟨q, x, e _ _ y fun _ z => nomatch z⟩⟩
theorem LsAt.ext {H H' : Hp} {a : Addr} {l : List Int} (h : LsAt H a l) (e : ExtN H H') : LsAt H' a l := e _ _ h fun _ z => nomatch z
section
variable {K : PySem.W.Frag} {T : List (Addr × Str)} {A G G' : Hp} {Ds : List Dk} {Os : List (Addr × List V × List PyData)} {Ts : List (Addr × List V)} {Vs : List (V × PyData)} {Q : VK} {E : XK} {vs : List V} {d : Addr} {fr : List Int} {S : De} {L : List Line}
theorem Wd.fresh (h : Wd K T A G Ds Os Ts Vs) {f : Addr} {ns : List Int} (s : Same G G') (n : G f = none) (hf : LsAt G' f ns) : Wd K T A G' Ds Os Ts ((.ref f, dI ns) :: Vs) := by
  obtain ⟨F, w⟩ := h
  exact ⟨F, (w.same s).add (dn_ls (w.no n) hf)⟩
theorem Wd.allE (h : Wd K T A G Ds Os Ts Vs) {i p t : Nat} (e : Ds[i]? = some ⟨d, fr, S, L⟩) (ev : vs = [.ref d, .int p, .int t]) (hp : p < S.n) (ht : t ≤ fr.length)
    (q : ∀ G' r, Wd K T A G' Ds Os Ts ((.ref r, dEs (S.ever p t)) :: Vs) → EvAt G' r (S.ever p t) → Same G G' → Q (.ref r) G') : spAllPutD K vs G Q E := by
  obtain ⟨F, w⟩ := h
  obtain ⟨a, ok, fo⟩ := w.desk i _ e
  exact ⟨d, fr, S, L, F i, p, t, ev, a, hp, ht, fun G' r s nr hr => q G' r ⟨F, (w.same s).add (dn_evs (w.no nr) hr)⟩ hr s⟩
end
theorem lieOfX {A H : Hp} {o l d : Addr} {S : De} (h : Here A o l d S) (x : ExtN A H) (p t : Nat) {b : Addr} (hb : H b = some (.tup ((ty p t).map kV))) : ∃ r, DGet H d (.ref b) r ∧ LieV A l r (S.lie p t) := by
  obtain ⟨kvs, h1, _, h2⟩ := h.lie
  exact ⟨_, DGet.t (x _ _ h1 fun _ z => nomatch z) hb, h2 p t⟩
theorem ever_seen {S : De} {fr : List Int} {p t : Nat} (t0 : 0 < t) {x : Int × Str} (h : x ∈ S.ever p (up fr t)) : S.Seen fr p t (some x.1) := by
  obtain ⟨j, u, e1, e2, e3, e4⟩ := evG_mem.mp h
  refine ⟨fun z => by omega, fun _ => ⟨j, ?_, u, e1, e2, e3⟩⟩
  rw [e4, Nat.zero_add]
theorem dn_os {P : Addr → Prop} {H : Hp} {a : Addr} {os : List (Option Int)} (n : ¬ P a) (h : H a = some (.lst (os.map oV))) : Dn P H (.ref a) (.list (os.map dO)) :=
  .lst n h (by
    clear h n
    induction os with
    | nil => exact .nil
    | cons x r ih =>
      refine .cons ?_ ih
      cases x with
      | none => exact .non
      | some k => exact .int k)
theorem Wd.freshO {K : PySem.W.Frag} {T : List (Addr × Str)} {A G G' : Hp} {Ds : List Dk} {Os : List (Addr × List V × List PyData)} {Ts : List (Addr × List V)} {Vs : List (V × PyData)} (h : Wd K T A G Ds Os Ts Vs) {f : Addr} {os : List (Option Int)} (s : Same G G') (n : G f = none) (hf : G' f = some (.lst (os.map oV))) : Wd K T A G' Ds Os Ts ((.ref f, .list (os.map dO)) :: Vs) := by
  obtain ⟨F, w⟩ := h
  exact ⟨F, (w.same s).add (dn_os (w.no n) hf)⟩
theorem DnAll.os {P : Addr → Prop} {H : Hp} : ∀ {os : List (Option Int)} {vs : List V}, DnAll P H vs (os.map dO) → vs = os.map oV
  | [], _, h => by cases h; rfl
  | x :: os, _, h => by
    rw [List.map_cons] at h
    cases h with
    | cons a b =>
      rw [List.map_cons, DnAll.os b]
      cases x with
      | none => cases a; rfl
      | some k => cases a; rfl
theorem Dn.os {P : Addr → Prop} {H : Hp} {a : Addr} {os : List (Option Int)} (h : Dn P H (.ref a) (.list (os.map dO))) : H a = some (.lst (os.map oV)) := by
  cases h with
  | lst _ ea r => rw [ea, r.os]
theorem scal_o (x y : Option Int) : scal (oV x) (oV y) = true := by cases x <;> cases y <;> rfl
theorem oV_inj {x y : Option Int} (h : oV x = oV y) : x = y := by
  cases x <;> cases y <;> first | rfl | cases h <;> rfl
theorem lay_os : ∀ os : List (Option Int), PyData.canLayAll0 (os.map dO) = true
  | [] => rfl
  | x :: os => by
    rw [List.map_cons]
    simp only [PyData.canLayAll0, lay_os os, Bool.and_true]
    cases x <;> rfl
theorem dep_os : ∀ os : List (Option Int), PyData.depthAll (os.map dO) ≤ 1
  | [] => by decide
  | x :: os => by
    rw [List.map_cons]
    simp only [PyData.depthAll]
    have := dep_os os
    cases x <;> simp [dO, PyData.depth] <;> omega
theorem shaped_os (os : List (Option Int)) : SeqAt.shaped (.list (os.map dO)) = true := by
  unfold SeqAt.shaped
  rw [Bool.and_eq_true]
  refine ⟨by simp only [PyData.canLay0, lay_os], decide_eq_true ?_⟩
  have := dep_os os
  simp only [PyData.depth]
  omega
theorem strOkT {x : Str} (h : TxOk x) : PyData.strOk x = true := by
  unfold PyData.strOk
  rw [← Array.all_toList]
  refine List.all_eq_true.mpr fun c hc => decide_eq_true ?_
  have := (h.each c hc).2
  omega
theorem lay_evsA : ∀ {l : List (Int × Str)}, (∀ e ∈ l, TxOk e.2) → PyData.canLayAll0 (l.map dE) = true
  | [], _ => rfl
  | x :: l, h => by
    rw [List.map_cons]
    simp only [PyData.canLayAll0, lay_evsA fun e he => h e (List.mem_cons_of_mem _ he), dE, PyData.canLay0, strOkT (h x List.mem_cons_self), Bool.and_true]
theorem dep_evsA : ∀ l : List (Int × Str), PyData.depthAll (l.map dE) ≤ 2
  | [] => by decide
  | x :: l => by
    rw [List.map_cons]
    have := dep_evsA l
    simp only [PyData.depthAll, dE, PyData.depth]
    omega
theorem lay_evs {l : List (Int × Str)} (h : ∀ e ∈ l, TxOk e.2) : (dEs l).canLay0 = true := by
  unfold dEs
  simp only [PyData.canLay0, lay_evsA h]
theorem shaped_evs {l : List (Int × Str)} (h : ∀ e ∈ l, TxOk e.2) : SeqAt.shaped (dEs l) = true := by
  unfold SeqAt.shaped
  rw [Bool.and_eq_true]
  refine ⟨lay_evs h, decide_eq_true ?_⟩
  have := dep_evsA l
  unfold dEs
  simp only [PyData.depth]
  omega
theorem ever_tx {fr : List Int} {S : De} (ok : S.Ok fr) {p t : Nat} : ∀ e ∈ S.ever p t, TxOk e.2 := by
  intro e he
  obtain ⟨j, u, e1, _, _, e4⟩ := evG_mem.mp he
  rw [e4]
  exact (ok.each j u e1).2.2.1
def dNx (k : Int) (x : Str) : PyData := .tuple [.int k, .str x]
theorem lay_nx {k : Int} {x : Str} (h : TxOk x) : (dNx k x).canLay0 = true := by
  unfold dNx
  simp only [PyData.canLay0, PyData.canLayAll0, strOkT h, Bool.and_self]
theorem shaped_nx {k : Int} {x : Str} (h : TxOk x) : SeqAt.shaped (dNx k x) = true := by
  unfold SeqAt.shaped
  rw [lay_nx h]
  rfl
/-- how many are left at a place behind k turns -/
def lftN (t m k : Nat) : Nat := if t = 0 then max 1 (m - k) else m - k
theorem lftN_at {t m k : Nat} (h : k < m) : lftN t m k = m - 1 - k + 1 := by
  unfold lftN
  split <;> omega
theorem lftN_back {t m k : Nat} (h : k < m) (c : 0 < m - 1 - k ∨ 0 < t) : lftN t m (k + 1) = m - 1 - k := by
  unfold lftN
  split <;> omega
theorem lftN_stay {t m k : Nat} (h : k < m) (c : ¬ (0 < m - 1 - k ∨ 0 < t)) : lftN t m (k + 1) = m - 1 - k + 1 := by
  unfold lftN
  split <;> omega
theorem lftN_end {t m : Nat} : lftN t m m = if t = 0 then 1 else 0 := by
  unfold lftN
  split <;> omega
theorem Wd.taleR {K : PySem.W.Frag} {T : List (Addr × Str)} {A G : Hp} {Ds : List Dk} {Os : List (Addr × List V × List PyData)} {Ts : List (Addr × List V)} {Vs : List (V × PyData)} {Q : VK} {E : XK} {vs : List V} {d : Addr} {fr : List Int} {S : De} {L : List Line} (h : Wd K T A G Ds Os Ts Vs) {i : Nat} (e : Ds[i]? = some ⟨d, fr, S, L⟩) (ev : vs = [.ref d])
    (q : ∀ G' r, Wd K T A G' Ds Os Ts Vs → LnAt G' r L → Same G G' → Q (.ref r) G') : spTaleD K vs G Q E := by
  obtain ⟨F, w⟩ := h
  obtain ⟨a, ok, fo⟩ := w.desk i _ e
  exact ⟨d, fr, S, L, F i, ev, a, fun G' r s nr hr => q G' r ⟨F, w.same s⟩ hr s⟩
theorem cutFromL (xs : List V) (n : Nat) : cutV xs (some (n : Int)) none = xs.drop n := by
  unfold cutV
  rw [HT.sIx_nat, HT.sIx_none]
  by_cases c : n ≤ xs.length
  · rw [show min n xs.length = n by omega, List.take_of_length_le (by rw [List.length_drop]; exact Nat.le_refl _)]
  · rw [show min n xs.length = xs.length by omega, List.drop_of_length_le (show xs.length ≤ n by omega)]
    simp

end PD

namespace PD
open PySem PySem.Spec PyProof.Rows L2

/-! Phrasedesk, law_k02: the law -/
open LamX (ExtN Tabs CodeO TabS)
theorem sc_law_tried : FnScope ["_law_ask"] ["_law_ask"] (defScope s_law_tried) := ⟨rfl, rfl, rfl, by decide +kernel, rfl, by decide +kernel, by decide +kernel⟩
def spLaw (K : PySem.W.Frag) : Sp := fun vs H Q _ => ∃ (a : Addr) (ns : List Int), vs = [.ref a] ∧ (∀ p ∈ tfs.map (He.cT K), H p.2 = some (.tbl #[])) ∧ SqL K H a (ns.map V.int) ∧ ∀ H' : Hp, Q (.bl true) H'
theorem tabs_nil {K : PySem.W.Frag} {H : Hp} (h : ∀ p ∈ tfs.map (He.cT K), H p.2 = some (.tbl #[])) : Tabs (tbs K) H := by
  intro p hp
  simp only [List.mem_cons, List.not_mem_nil, or_false] at hp
  subst hp
  exact LamX.TabS.nil (h _ (List.mem_map.mpr ⟨("law", none), by simp [tfs], rfl⟩))
theorem sc_law : FnScope ["_law_script", "_law_by", "_law_froms_here", "_law_desk", "_law_here", "_law_tale", "_law_phrase", "_law_tongue", "_law_ever_here", "_law_lying", "_law_above", "_law_number_here", "_law_over", "_law_at", "_law_one", "_law_text_here", "_law_line"] ["_law_script"] (defScope s_law) := ⟨rfl, rfl, rfl, by decide +kernel, rfl, by decide +kernel, by decide +kernel⟩
theorem lawG {P : Program} {w : World} {K : PySem.W.Frag} {mg : Str → Option Value} {base : Heap} {fd : FuncData} (T : Tx K mg) (B : Tb K mg base) (F : FunD K "law" "law" (defArgs s_law) (defBody s_law) (defScope s_law) [] [] (He.ga K "law") fd) : FnG P w K mg base 11 (He.ga K "law") fd ["_law_script"] (spLaw K) := by
  refine okGT F sc_law (fun vs H Q E h => ?_) (fun A outer s H vs Q E hgd hr h => ?_)
  · obtain ⟨a, ns, rfl, _⟩ := h
    rfl
  · obtain ⟨a, ns, rfl, tb0, hS, q⟩ := h
    refine ⟨_, (pss_cons (ps_for PassesOwn.never rfl (pi_range1 (by rfl) T.f_range (pa_cons pe_int pa_nil)) (pg_name (i := 1) sc_law.nd rfl (Or.inl rfl))
      (pss_cons (ps_set (i := 2) sc_law.nd rfl (Or.inl rfl) (C8.pe_c (c_law_froms T) hr (by decide) rfl (pa_cons (pv 0) (pa_cons (pv 1) pa_nil))))
      (pss_cons (ps_asg (C8.pe_c (c_law_played T) hr (by decide) rfl (pa_cons (pv 0) (pa_cons (pv 1) (pa_cons (pv 2) (pa_cons pe_int pa_nil))))) (pg_tup rfl (pgs_cons (pg_name (i := 3) sc_law.nd rfl (Or.inr rfl)) (pgs_cons (pg_name (i := 4) sc_law.nd rfl (Or.inl rfl)) (pgs_cons (pg_name (i := 5) sc_law.nd rfl (Or.inl rfl)) pgs_nil)))))
      (pss_cons (ps_for PassesOwn.never rfl (pi_range1 (by rfl) T.f_range (pa_cons (pe_dget (hu_of hr) (pv 4) pe_str (fun _ _ => rfl)) pa_nil)) (pg_name (i := 6) sc_law.nd rfl (Or.inr rfl))
        (pss_one (ps_for PassesOwn.never rfl (pi_range1 (by rfl) T.f_range (pa_cons (pe_op op_add (pe_callB call_len_seq (by rfl) T.f_len (by decide +kernel) (pa_cons (pv 2) pa_nil)) pe_int) pa_nil)) (pg_name (i := 7) sc_law.nd rfl (Or.inr rfl))
          (pss_cons (ps_par (i := 8) (j := 9) (by rfl) sc_law.nd rfl rfl (by decide) rfl rfl (pa_cons (C8.pe_mt (c_Desk_all_put T) hr (by decide) (pv 3) (pa_cons (pv 6) (pa_cons (pv 7) pa_nil))) (pa_cons (pe_dget2 (hu_of hr) (pe_dget (hu_of hr) (pv 4) pe_str (fun _ _ => rfl)) (pe_tup (pa_cons (pv 6) (pa_cons (pv 7) pa_nil))) (pe_lst pa_nil) ⟨rfl, rfl, rfl, rfl⟩) pa_nil)) (by rfl))
          (pss_cons (ps_set (i := 10) sc_law.nd rfl (Or.inr rfl) (pe_lst (pa_cons pe_non pa_nil)))
          (C8.pss_cut (ps_if (pt_cmpR op_gt (pv 7) pe_int (nomark _))
            (pss_one (ps_set (i := 10) sc_law.nd rfl (Or.inr rfl) (pe_lc (own := [("_law_one", 14), ("_law_text_here", 15)]) (g := gTup K 2 (gCons (gName 14) (gCons (gName 15) (gNil)))) (tt := tYes) (by rfl) sc_law.nd (pi_list (C8.pe_mt (c_Desk_all_put T) hr (by decide) (pv 3) (pa_cons (pv 6) (pa_cons (pe_ix ix_list (pv 2) (pe_op op_sub (pv 7) pe_int) (fun _ _ => rfl)) pa_nil)))) (blkOk_by (own := [("_law_one", 14), ("_law_text_here", 15)]) (N := ["_law_script", "_law_by", "_law_froms_here", "_law_desk", "_law_here", "_law_tale", "_law_phrase", "_law_tongue", "_law_ever_here", "_law_lying", "_law_above", "_law_number_here", "_law_over", "_law_at", "_law_one", "_law_text_here", "_law_line"]) (sc := defScope s_law) (by decide +kernel)) (fun _ _ _ _ _ => (pg_tup rfl (pgs_cons (pg_name (i := 14) sc_law.nd rfl (Or.inl rfl) (Or.inr rfl)) (pgs_cons (pg_name (i := 15) sc_law.nd rfl (Or.inl rfl) (Or.inr rfl)) pgs_nil)))) (fun _ _ _ _ _ => pts_nil) (fun _ _ _ _ _ => (pv 14)))))
            pss_nil)
          (C8.pss_cut (ps_set (i := 11) sc_law.nd rfl (Or.inl rfl) (pe_ifExp (pt_cmpR (op_neD hr.units) (pv 9) (pe_lst pa_nil) (nomark _)) (pe_ix ix_list (pv 9) (pe_un un_neg pe_int) (fun _ _ => rfl)) pe_non))
          (pss_cons (ps_for PassesOwn.never rfl (pi_list (pe_op op_cat (pe_lst (pa_cons pe_non (pa_cons (pe_un un_neg pe_int) (pa_cons (pe_callB call_len_seq (by rfl) T.f_len (by decide +kernel) (pa_cons (pe_dget (hu_of hr) (pv 4) pe_str (fun _ _ => rfl)) pa_nil)) pa_nil)))) (pe_lc (own := [("_law_one", 14), ("_law_text_here", 15)]) (g := gTup K 2 (gCons (gName 14) (gCons (gName 15) (gNil)))) (tt := tYes) (by rfl) sc_law.nd (pi_list (pv 8)) (blkOk_by (own := [("_law_one", 14), ("_law_text_here", 15)]) (N := ["_law_script", "_law_by", "_law_froms_here", "_law_desk", "_law_here", "_law_tale", "_law_phrase", "_law_tongue", "_law_ever_here", "_law_lying", "_law_above", "_law_number_here", "_law_over", "_law_at", "_law_one", "_law_text_here", "_law_line"]) (sc := defScope s_law) (by decide +kernel)) (fun _ _ _ _ _ => (pg_tup rfl (pgs_cons (pg_name (i := 14) sc_law.nd rfl (Or.inl rfl) (Or.inr rfl)) (pgs_cons (pg_name (i := 15) sc_law.nd rfl (Or.inl rfl) (Or.inr rfl)) pgs_nil)))) (fun _ _ _ _ _ => pts_nil) (fun _ _ _ _ _ => (pv 14))))) (pg_name (i := 12) sc_law.nd rfl (Or.inr rfl))
            (pss_one (ps_if (PW.pt (pw_and (pt_cmpR op_ne (pv 12) (pv 11) (nomark _)) (pw_and1 (pt_cmpR (op_neD hr.units) (pv 10) (pe_lst pa_nil) (nomark _)))))
              (pss_one (ps_if (pt_cmpR op_ne (pe_lamdef (T := tbs K) T.F_law_tried T.g_law_tried (by rfl) (fun _ _ _ _ _ _ us hl => match us, hl with | [_], _ => rfl) sc_law_tried rfl (Or.inl rfl) (fun _ => tried_gives rfl T.g_Overtaken (by decide) rfl T.g_Nothing (by decide) (fun _ => rfl)) B.tb_law rfl (List.mem_cons_self) T.u_law hr (LamX.lamS_by (sc := defScope s_law) (by decide +kernel)) rfl (fun _ _ _ _ _ => rfl) (fun _ _ _ _ _ _ _ hr => (pe_mtX (c_Desk_putOver T) hr (by decide) (takes_of rfl rfl rfl rfl) (pv 3) (pa_cons (pv 6) (pa_cons (pv 7) (pa_cons pe_str (pa_cons (pe_ix (show IxR _ (rIxL K) from ix_list) (pv 10) pe_int (fun _ _ => rfl)) (pa_cons (pv 12) pa_nil)))))))) pe_str (nomark _))
                (pss_one (ps_ret pe_bl))
                pss_nil))
              pss_nil)))
          (pss_cons (ps_if (pt_cmpR (op_neD hr.units) (C8.pe_mt (c_Desk_all_put T) hr (by decide) (pv 3) (pa_cons (pv 6) (pa_cons (pv 7) pa_nil))) (pv 8) (nomark _))
            (pss_one (ps_ret pe_bl))
            pss_nil)
          (pss_cons (ps_for PassesOwn.never rfl (pi_range3 (by rfl) T.f_range (pa_cons (pe_op op_sub (pe_callB call_len_seq (by rfl) T.f_len (by decide +kernel) (pa_cons (pv 9) pa_nil)) pe_int) (pa_cons (pe_un un_neg pe_int) (pa_cons (pe_un un_neg pe_int) pa_nil)))) (pg_name (i := 13) sc_law.nd rfl (Or.inl rfl))
            (pss_cons (ps_if (pt_cmpR (op_neD hr.units) (C8.pe_mt (c_Desk_now T) hr (by decide) (pv 3) (pa_cons (pv 6) (pa_cons (pv 7) pa_nil))) (pe_tup (pa_cons (pe_ix ix_list (pv 9) (pv 13) (fun _ _ => rfl)) (pa_cons (pe_ix ix_tup (pe_ix ix_list (pe_dget (hu_of hr) (pv 4) pe_str (fun _ _ => rfl)) (pe_ix ix_list (pv 9) (pv 13) (fun _ _ => rfl)) (fun _ _ => rfl)) pe_int (fun _ _ => rfl)) pa_nil))) (nomark _))
              (pss_one (ps_ret pe_bl))
              pss_nil)
            (pss_one (ps_if (PW.pt (pw_or (pt_cmpR op_gt (pv 13) pe_int (nomark _)) (pw_or1 (pt_cmpR op_gt (pv 7) pe_int (nomark _)))))
              (pss_one (ps_if (pt_cmpR op_ne (C8.pe_mt (c_Desk_backL T) hr (by decide) (pv 3) (pa_cons (pv 6) (pa_cons (pv 7) pa_nil))) (pe_ix ix_list (pv 9) (pv 13) (fun _ _ => rfl)) (nomark _))
                (pss_one (ps_ret pe_bl))
                pss_nil))
              pss_nil))))
          (pss_cons (ps_if (PW.pt (pw_or (pt_cmpR (op_neD hr.units) (C8.pe_mt (c_Desk_all_put T) hr (by decide) (pv 3) (pa_cons (pv 6) (pa_cons (pv 7) pa_nil))) (pv 8) (nomark _)) (pw_or1 (pt_cmpR op_ne (pe_cmpR op_isN (C8.pe_mt (c_Desk_now T) hr (by decide) (pv 3) (pa_cons (pv 6) (pa_cons (pv 7) pa_nil))) pe_non (nomark _)) (pe_cmpR op_gt (pv 7) pe_int (nomark _)) (nomark _)))))
            (pss_one (ps_ret pe_bl))
            pss_nil)
          (pss_one (ps_if (pt_cmpR op_ne (pe_lamdef (T := tbs K) T.F_law_tried T.g_law_tried (by rfl) (fun _ _ _ _ _ _ us hl => match us, hl with | [_], _ => rfl) sc_law_tried rfl (Or.inl rfl) (fun _ => tried_gives rfl T.g_Overtaken (by decide) rfl T.g_Nothing (by decide) (fun _ => rfl)) B.tb_law rfl (List.mem_cons_self) T.u_law hr (LamX.lamS_by (sc := defScope s_law) (by decide +kernel)) rfl (fun _ _ _ _ _ => rfl) (fun _ _ _ _ _ _ _ hr => (pe_mtX (c_Desk_backNone T) hr (by decide) (takes_of rfl rfl rfl rfl) (pv 3) (pa_cons (pv 6) (pa_cons (pv 7) pa_nil))))) pe_str (nomark _))
            (pss_one (ps_ret pe_bl))
            pss_nil)))))))))))))
      (pss_one (ps_if (pt_cmpR op_ne (pe_op op_sub (pe_callB call_len_seq (by rfl) T.f_len (by decide +kernel) (pa_cons (C8.pe_mt0 (c_Desk_tale T) hr (by decide) (pv 3)) pa_nil)) (pe_callB call_len_seq (by rfl) T.f_len (by decide +kernel) (pa_cons (pv 5) pa_nil))) (pe_callB call_len_seq (by rfl) T.f_len (by decide +kernel) (pa_cons (pe_lc (own := [("_law_line", 16)]) (g := gName 16) (by rfl) sc_law.nd (pi_list (pe_slice sl_list (C8.pe_mt0 (c_Desk_tale T) hr (by decide) (pv 3)) (po_some (pe_callB call_len_seq (by rfl) T.f_len (by decide +kernel) (pa_cons (pv 5) pa_nil))) po_none)) (blkOk_by (own := [("_law_line", 16)]) (N := ["_law_script", "_law_by", "_law_froms_here", "_law_desk", "_law_here", "_law_tale", "_law_phrase", "_law_tongue", "_law_ever_here", "_law_lying", "_law_above", "_law_number_here", "_law_over", "_law_at", "_law_one", "_law_text_here", "_law_line"]) (sc := defScope s_law) (by decide +kernel)) (fun _ _ _ _ _ => (pg_name (i := 16) sc_law.nd rfl (Or.inl rfl))) (fun _ _ _ _ _ => (pts_one (pt_cmpR op_eq (pe_ix (show IxR _ (rIxT K) from ix_tup) (pv 16) pe_int (fun _ _ => rfl)) pe_str (nomark _)))) (fun _ _ _ _ _ => (pv 16))) pa_nil)) (nomark _))
        (pss_one (ps_ret pe_bl))
        pss_nil))))))
    (pss_one (ps_ret pe_bl))), ?_⟩
    have tb := tabs_nil tb0
    refine ⟨2, rfl, by decide, by decide, ?_⟩
    refine for_range (lo := 0) (n := 2) (fun i σ G => ∃ v1 v2 v3 v4 v5 v6 v7 v8 v9 v10 v11 v12 v13 v14 v15 v16 : Option V, σ = [some (.ref a), v1, v2, v3, v4, v5, v6, v7, v8, v9, v10, v11, v12, v13, v14, v15, v16] ∧ ExtN H G ∧ Tabs (tbs K) G) ⟨none, none, none, none, none, none, none, none, none, none, none, none, none, none, none, none, rfl, ExtN.refl _, tb⟩ ?_ ?_
    · rintro i σ G1 hi ⟨v1, v2, v3, v4, v5, v6, v7, v8, v9, v10, v11, v12, v13, v14, v15, v16, rfl, x1, T1⟩
      rw [Int.zero_add]
      have hS1 := ext_sql x1 hS
      refine ⟨_, rfl, _, rfl, a, ns, _, rfl, hS1, by omega, by omega, fun G2 f fr s2 nf hf fo => ?_⟩
      refine ⟨_, rfl, _, rfl, _, rfl, a, ns, _, _, f, fr, rfl, s2.seq hS1, by omega, by omega, by decide, by decide, hf, fo, fun G3 r d o l e tl S0 L0 F0 b3 nr hr3 pl ll l0 => ?_⟩
      have pl : S0.puts.length ≤ 120 := pl
      have ll : L0.length ≤ 120 := ll
      obtain ⟨A0, w3, hh0, ht0, sA⟩ := b3.world fo (T1.ext (s2.trans b3.same))
      have hfA : LsAt A0 f fr := hf.same sA
      have ok0 := b3.ok
      have n6 := b3.ok.six
      have h7 := fo.hi
      refine ⟨r, _, rfl, .inl (.inl hr3), rfl, _, _, rfl, _, _, rfl, _, _, rfl, rfl, ?_⟩
      have xA : ExtN G1 A0 := (ExtN.same s2).trans (ExtN.same sA)
      clear b3 hr3 nr hf nf
      have hh3 : Here G3 o l e S0 := hh0.ext w3.ext
      refine ⟨_, rfl, o, _, rfl, DGet.k (k := kP) hh3.top, _, rfl, by omega, by omega, ?_⟩
      refine for_range (lo := 0) (n := (S0.n : Int).toNat) (fun p σ G => ∃ (v6 v7 v8 v9 v10 v11 v12 v13 v14 v15 v16 : Option V) (A : Hp) (S : De) (bs : List Line), σ = [some (.ref a), some (.int (i : Int)), some (.ref f), some (.ref d), some (.ref o), some (.ref tl), v6, v7, v8, v9, v10, v11, v12, v13, v14, v15, v16] ∧ Wd K (tbs K) A G [⟨d, fr, S, L0 ++ bs⟩] [] [] [] ∧ ExtN A0 A ∧ S.n = S0.n ∧ S.puts = S0.puts ∧ (∀ p' t', p ≤ p' → S.lie p' t' = S0.lie p' t') ∧ (∀ n ∈ bs, ∃ p t k, n = .back p t k) ∧ bs.length ≤ 1000 * p)
        ⟨_, _, _, _, _, _, _, _, _, _, _, A0, S0, [], rfl, by rw [List.append_nil]; exact w3, ExtN.refl _, rfl, rfl, fun _ _ _ => rfl, (fun n hn => nomatch hn), Nat.zero_le _⟩ ?_ ?_
      · rintro p σ G hp ⟨v6, v7, v8, v9, v10, v11, v12, v13, v14, v15, v16, A, S, bs, rfl, w, xA', en, eP, lies, bks, bl⟩
        rw [Int.zero_add]
        have hpn : p < S0.n := by omega
        have hfG : LsAt G f fr := hfA.ext (xA'.trans w.ext)
        refine ⟨_, rfl, f, _, rfl, .inl (SqL.of hfG), _, _, rfl, rfl, _, rfl, by rw [List.length_map]; omega, by rw [List.length_map]; omega, ?_⟩
        refine for_range (lo := 0) (n := (((fr.map V.int).length : Int) + 1).toNat) (fun t σ G => ∃ (v7 v8 v9 v10 v11 v12 v13 v14 v15 v16 : Option V) (A : Hp) (S : De) (bs : List Line), σ = [some (.ref a), some (.int (i : Int)), some (.ref f), some (.ref d), some (.ref o), some (.ref tl), some (.int (p : Int)), v7, v8, v9, v10, v11, v12, v13, v14, v15, v16] ∧ Wd K (tbs K) A G [⟨d, fr, S, L0 ++ bs⟩] [] [] [] ∧ ExtN A0 A ∧ S.n = S0.n ∧ S.puts = S0.puts ∧ (∀ p' t', p < p' ∨ (p' = p ∧ t ≤ t') → S.lie p' t' = S0.lie p' t') ∧ (∀ n ∈ bs, ∃ p t k, n = .back p t k) ∧ bs.length ≤ 1000 * p + 120 * t)
          ⟨_, _, _, _, _, _, _, _, _, _, A, S, bs, rfl, w, xA', en, eP, (fun p' t' h => lies p' t' (by omega)), bks, bl⟩ ?_ ?_
        · clear lies bl bks
          rintro t σ G ht ⟨v7, v8, v9, v10, v11, v12, v13, v14, v15, v16, A, S, bs, rfl, w, xA', en, eP, lies, bks, bl⟩
          rw [List.length_map] at ht
          rw [Int.zero_add]
          have ht' : t ≤ fr.length := by omega
          have hhA : Here A o l e S0 := hh0.ext xA'
          have lie0 : S.lie p t = S0.lie p t := lies p t (.inr ⟨rfl, Nat.le_refl _⟩)
          have hpS : p < S.n := by omega
          refine ⟨_, rfl, w.me (i := 0) rfl (fun _ _ => rfl) ?_⟩
          refine consI ?_
          refine ⟨_, rfl, ?_⟩
          refine consI ?_
          refine ⟨_, rfl, ?_⟩
          refine nilI ?_
          refine w.allE (i := 0) rfl rfl hpS ht' (fun Ga r1 wa hr1 sa => ?_)
          have hha : Here Ga o l e S0 := hhA.ext wa.ext
          refine ⟨_, rfl, o, _, rfl, DGet.k (k := kL) hha.top, e, rfl, hha.isD, _, rfl, _, rfl, (by show 2 ≤ sizeLine; decide), fun b nb => ⟨Nat.zero_le _, fun el ne => ?_⟩⟩
          have wb := wa.same (same_upd nb (o := .tup [V.int (p : Int), V.int (t : Int)]))
          have wc := wb.fresh (ns := []) (same_upd ne (o := .lst [])) ne upd_same
          have hb : (upd (upd Ga b (.tup [V.int (p : Int), V.int (t : Int)])) el (.lst [])) b = some (.tup ((ty p t).map kV)) := same_upd ne _ _ upd_same
          generalize upd (upd Ga b (.tup [V.int (p : Int), V.int (t : Int)])) el (.lst []) = Gc at wc hb ⊢
          obtain ⟨rr, g, lv⟩ := lieOfX hhA wc.ext p t hb
          have key : ∃ al : Addr, rr.getD (.ref el) = .ref al ∧ ((al = el ∧ S0.lie p t = []) ∨ LsAt A al (S0.lie p t)) := by
            cases rr with
            | none => exact ⟨el, rfl, .inl ⟨rfl, lv⟩⟩
            | some v =>
              obtain ⟨c, h1, _, h2⟩ := lv
              exact ⟨c, h1, .inr h2⟩
          obtain ⟨al, ea, hal⟩ := key
          refine ⟨rr, g, ?_⟩
          rw [ea]
          refine ⟨_, _, rfl, ?_⟩
          clear wa wb hb g lv ea rr hha
          refine ⟨(by show 1 ≤ sizeLine; decide), fun ab nab => ?_⟩
          refine ⟨fun σ' G' => ∃ (ab : Addr) (os : List (Option Int)), σ' = [some (.ref a), some (.int (i : Int)), some (.ref f), some (.ref d), some (.ref o), some (.ref tl), some (.int (p : Int)), some (.int (t : Int)), some (.ref r1), some (.ref al), some (.ref ab), v11, v12, v13, v14, v15, v16] ∧ Wd K (tbs K) A G' [⟨d, fr, S, L0 ++ bs⟩] [] [] [(.ref ab, .list (os.map dO)), (.ref el, dI []), (.ref r1, dEs (S.ever p t))] ∧ os.length ≤ 120 ∧ ∀ s, os.head? = some s → S.Seen fr p t s, ?_, ?_⟩
          · have wd := wc.freshO (os := [Option.none]) (same_upd nab) nab upd_same
            refine ⟨_, rfl, _, _, rfl, rfl, decide ((0 : Int) < (t : Int)), rfl, ?_⟩
            by_cases t0 : (0 : Int) < (t : Int)
            case neg =>
              rw [decide_eq_false t0]
              refine iteF ⟨ab, [Option.none], rfl, wd, by decide, fun s es => ?_⟩
              cases (Option.some.inj es)
              exact ⟨fun _ => rfl, fun z => by omega⟩
            rw [decide_eq_true t0]
            refine iteT ?_
            have t0' : 0 < t := by omega
            obtain ⟨x, ex, x0, xl, xu⟩ := fo.at (t := t) t0' ht'
            subst xu
            have hu := up_lt fo t0' ht'
            have we := wd.less 1
            have we : Wd K (tbs K) A (upd Gc ab (.lst [.non])) [⟨d, fr, S, L0 ++ bs⟩] [] [] [(.ref el, dI []), (.ref r1, dEs (S.ever p t))] := we
            generalize upd Gc ab (.lst [.non]) = Gd at we ⊢
            have ix : atI (fr.map V.int) ((t : Int) - 1) = some (V.int (up fr t : Int)) := by
              rw [show ((t : Int) - 1) = ((t - 1 : Nat) : Int) by omega]
              exact atI_nat (by rw [List.getElem?_map, ex]; rfl)
            refine ⟨_, rfl, we.me (i := 0) rfl (fun _ _ => rfl) ?_⟩
            refine consI ?_
            refine ⟨_, rfl, ?_⟩
            refine consI ?_
            refine ⟨_, rfl, _, rfl, _, _, rfl, rfl, f, _, _, _, rfl, rfl, SqL.of (hfA.ext (xA'.trans we.ext)), ix, ?_⟩
            refine nilI ?_
            refine we.allE (i := 0) rfl rfl hpS (by omega) (fun Ge r2 wf hr2 sf => ?_)
            obtain ⟨ws, hws, aws⟩ := id hr2
            have few : (S.ever p (up fr t)).length ≤ 120 := by
              have : (S.ever p (up fr t)).length ≤ S.puts.length := evG_len
              rw [eP] at this
              omega
            refine ⟨r2, rfl, ⟨_, SqL.of hws⟩, fun R nR => ?_⟩
            refine lc_list (K := K) (a := r2) (xs := ws) (fun i G3 => Same Ge G3 ∧ G3 R = some (.lst ((((S.ever p (up fr t)).take i).map fun e => some e.1).map oV))) ⟨same_upd nR, upd_same⟩ (fun i G3 _ z => SqL.of (z.1 _ _ hws)) ?_ ?_
            · rintro i v G3 hv ⟨s3, hR⟩
              obtain ⟨y, ey, u, rfl, hu'⟩ := aws.at hv
              refine ⟨u, _, rfl, .inl (.inl (s3 _ _ hu')), rfl, _, _, rfl, _, _, rfl, rfl, rfl, _, rfl, _, hR, ?_, Same.chg s3 nR, ?_⟩
              · rw [List.length_map, List.length_map, List.length_take]
                exact small1000 (by omega)
              · rw [upd_same, List.take_add_one, ey, Option.toList_some, List.map_append, List.map_append]
                rfl
            rintro G3 ⟨s3, hR⟩
            rw [aws.len, List.take_length] at hR
            have wg := (wf.less 1).freshO s3 nR hR
            refine ⟨R, (S.ever p (up fr t)).map fun e => some e.1, rfl, wg, by rw [List.length_map]; exact few, fun s es => ?_⟩
            rw [List.head?_map] at es
            cases eh : (S.ever p (up fr t)).head? with
            | none => rw [eh] at es; cases es
            | some y =>
              rw [eh] at es
              cases (Option.some.inj es)
              exact ever_seen t0' (List.mem_of_mem_head? eh)
          clear wc nab
          rintro σ' G' ⟨ab, os, rfl, wM, ol, seen⟩
          obtain ⟨A2, w2, x2, dat, _⟩ := wM.rebase
          have hab := dat _ (List.mem_cons_self ..)
          have hel := dat _ (List.mem_cons_of_mem _ (List.mem_cons_self ..))
          have hev := (dat (.ref r1, dEs (S.ever p t)) (List.mem_cons_of_mem _ (List.mem_cons_of_mem _ (List.mem_cons_self ..)))).evs
          have hal2 : LsAt A2 al (S0.lie p t) := by
            rcases hal with ⟨rfl, z⟩ | z
            · rw [z]
              obtain ⟨_, e1, _, e2⟩ := Dn.ls (ns := []) hel
              cases e1
              exact e2
            · exact z.ext x2
          have xA2 : ExtN A0 A2 := xA'.trans x2
          clear dat hel hal wM x2 hhA w xA'
          have hh2 : Here A2 o l e S0 := hh0.ext xA2
          refine ⟨fun σ' G' => σ' = [some (.ref a), some (.int (i : Int)), some (.ref f), some (.ref d), some (.ref o), some (.ref tl), some (.int (p : Int)), some (.int (t : Int)), some (.ref r1), some (.ref al), some (.ref ab), some (oV (S0.now p t)), v12, v13, v14, v15, v16] ∧ Wd K (tbs K) A2 G' [⟨d, fr, S, L0 ++ bs⟩] [] [] [], ?_, ?_⟩
          · refine ⟨_, rfl, Nat.zero_le _, fun g ng => ⟨_, _, dp_ints ((hal2.ext w2.ext).same (same_upd ng)), dp_ints (ns := []) upd_same, shaped_ints _, shaped_ints _, !decide (S0.lie p t = []), by rw [eqv_ints], ?_⟩⟩
            have w3' := w2.same (same_upd ng (o := .lst []))
            unfold De.now
            cases el' : (S0.lie p t).getLast? with
            | none =>
              have e0 : S0.lie p t = [] := List.getLast?_eq_none_iff.mp el'
              rw [decide_eq_true e0]
              exact iteF ⟨rfl, w3'⟩
            | some k =>
              have e0 : ¬ S0.lie p t = [] := fun z => by
                rw [z] at el'
                cases el'
              rw [decide_eq_false e0]
              exact iteT ⟨_, rfl, _, rfl, al, _, _, _, rfl, rfl, SqL.of ((hal2.ext w2.ext).same (same_upd ng)), last_at el', rfl, w3'⟩
          clear w2
          rintro σ' G' ⟨rfl, w⟩
          have hhG : Here G' o l e S0 := hh2.ext w.ext
          obtain ⟨pvs, hpv, hpa⟩ := hhG.puts
          refine ⟨_, rfl, _, rfl, o, _, rfl, DGet.k (k := kU) hhG.top, l, _, rfl, .inl (SqL.of hpv), (by show 3 ≤ sizeLine; decide), fun c1 nc1 => ?_⟩
          rw [hpa.len]
          have wc1 := w.same (same_upd nc1 (o := .lst [.non, .int (-1), .int (S0.puts.length : Int)]))
          have hc1 : (upd G' c1 (.lst [.non, .int (-1), .int (S0.puts.length : Int)])) c1 = some (.lst [.non, .int (-1), .int (S0.puts.length : Int)]) := upd_same
          generalize upd G' c1 (.lst [.non, .int (-1), .int (S0.puts.length : Int)]) = Gh at wc1 hc1 ⊢
          obtain ⟨ws, hws, aws⟩ := hev.ext wc1.ext
          have few : (S.ever p t).length ≤ 120 := by
            have : (S.ever p t).length ≤ S.puts.length := evG_len
            rw [eP] at this
            omega
          refine ⟨_, rfl, r1, rfl, ⟨_, SqL.of hws⟩, fun R nR => ?_⟩
          refine lc_list (K := K) (a := r1) (xs := ws) (fun i G3 => Same Gh G3 ∧ G3 R = some (.lst ((((S.ever p t).take i).map fun e => some e.1).map oV))) ⟨same_upd nR, upd_same⟩ (fun i G3 _ z => SqL.of (z.1 _ _ hws)) ?_ ?_
          · rintro i v G3 hv ⟨s3, hR⟩
            obtain ⟨y, ey, u, rfl, hu'⟩ := aws.at hv
            refine ⟨u, _, rfl, .inl (.inl (s3 _ _ hu')), rfl, _, _, rfl, _, _, rfl, rfl, rfl, _, rfl, _, hR, ?_, Same.chg s3 nR, ?_⟩
            · rw [List.length_map, List.length_map, List.length_take]
              exact small1000 (by omega)
            · rw [upd_same, List.take_add_one, ey, Option.toList_some, List.map_append, List.map_append]
              rfl
          rintro G3 ⟨s3, hR⟩
          rw [aws.len, List.take_length] at hR
          refine ⟨c1, R, _, _, rfl, rfl, s3 _ _ hc1, hR, ?_, fun C nC => ?_⟩
          · rw [List.length_map, List.length_map]
            show 3 + _ ≤ sizeLine
            exact Nat.le_of_lt (small1000 (by omega))
          have wC := (wc1.same s3).freshO (os := [Option.none, some (-1), some (S0.puts.length : Int)] ++ (S.ever p t).map fun e => some e.1) (same_upd nC) nC (by rw [upd_same, List.map_append])
          generalize ([Option.none, some (-1), some (S0.puts.length : Int)] ++ (S.ever p t).map fun e => some e.1 : List (Option Int)) = ovs at wC
          obtain ⟨A3, w3', x3, dat, _⟩ := wC.rebase
          have hC := (dat _ (List.mem_cons_self ..)).os
          clear dat wC wc1 hc1 hws aws hR nR nc1 nC hpv hpa hhG
          have hab3 := Dn.os hab
          have hab3 : A3 ab = some (.lst (os.map oV)) := x3 _ _ hab3 fun _ z => nomatch z
          have xA3 := xA2.trans x3
          have hal3 := hal2.ext x3
          have hev3 := hev.ext x3
          clear hab hal2 hev xA2 w hh2
          refine ⟨C, rfl, ⟨_, SqL.of (by rw [upd_same])⟩, ?_⟩
          refine for_list (K := K) (a := C) (xs := ovs.map oV) (fun k σ G => ∃ v12 : Option V, σ = [some (.ref a), some (.int (i : Int)), some (.ref f), some (.ref d), some (.ref o), some (.ref tl), some (.int (p : Int)), some (.int (t : Int)), some (.ref r1), some (.ref al), some (.ref ab), some (oV (S0.now p t)), v12, v13, v14, v15, v16] ∧ Wd K (tbs K) A3 G [⟨d, fr, S, L0 ++ bs⟩] [] [] []) ⟨_, rfl, w3'⟩ (fun k σ G _ ⟨_, _, z⟩ => SqL.of (z.ext _ _ hC fun _ y => nomatch y)) ?_ ?_
          · rintro k v σ G hk ⟨v12, rfl, w⟩
            rw [List.getElem?_map] at hk
            obtain ⟨ov, eov, rfl⟩ := Option.map_eq_some_iff.mp hk
            refine ⟨_, rfl, _, rfl, scal_o _ _, !decide (oV ov = oV (S0.now p t)), rfl, ?_⟩
            by_cases c1 : oV ov = oV (S0.now p t)
            · rw [decide_eq_true c1]
              exact iteF (iteF ⟨_, rfl, w⟩)
            rw [decide_eq_false c1]
            refine iteT ⟨_, rfl, Nat.zero_le _, fun g ng => ?_⟩
            have w4 := w.same (same_upd ng (o := .lst []))
            have hab4 : (upd G g (.lst [])) ab = some (.lst (os.map oV)) := w4.ext _ _ hab3 fun _ z => nomatch z
            refine ⟨.list (os.map dO), .list [], (dn_os (P := fun _ => False) (fun z => z) hab4).dp, dp_ints (ns := []) upd_same, shaped_os _, shaped_ints [], !PyData.eqv (.list (os.map dO)) (.list []), rfl, ?_⟩
            generalize upd G g (.lst []) = G4 at w4 hab4 ⊢
            cases os with
            | nil =>
              rw [show PyData.eqv (.list (([] : List (Option Int)).map dO)) (.list []) = true from rfl]
              exact iteF ⟨_, rfl, w4⟩
            | cons s1 os =>
              rw [show PyData.eqv (.list ((s1 :: os).map dO)) (.list []) = false from rfl]
              refine iteT ?_
              refine ⟨w4.tab, fun G5 e5 t5 => ?_⟩
              have w5 := w4.keepT e5 t5
              have hab5 : G5 ab = some (.lst ((s1 :: os).map oV)) := e5 _ _ hab4 fun _ z => nomatch z
              refine ⟨_, rfl, w5.me (i := 0) rfl (fun _ _ => rfl) ?_⟩
              refine consI ?_
              refine ⟨_, rfl, ?_⟩
              refine consI ?_
              refine ⟨_, rfl, ?_⟩
              refine consI ?_
              refine cI ?_
              refine consI ?_
              refine ⟨_, rfl, ab, _, _, _, rfl, rfl, SqL.of hab5, atI_nat (j := 0) rfl, ?_⟩
              refine consI ?_
              refine ⟨_, rfl, ?_⟩
              refine nilI ?_
              have lieN : S.now p t = S0.now p t := by unfold De.now; rw [lie0]
              refine w5.putOver (i := 0) (x := "zz") (s := s1) (o := ov) rfl rfl hpS ht' (txD_ok (by decide +kernel)) (seen s1 rfl) (fun z => c1 (by rw [z, lieN])) (fun G6 w6 => ?_)
              refine ⟨true, T.e_Overtaken_Overtaken, fun _ => ?_, fun z => nomatch z⟩
              refine cI ?_
              refine neS (x := .str "overtaken") (y := .str "overtaken") rfl rfl ?_
              exact ⟨false, rfl, iteF ⟨_, rfl, w6⟩⟩
          · rintro σ G ⟨v12, rfl, w⟩
            obtain ⟨okS, _⟩ := w.ok (i := 0) rfl
            have evOk := ever_tx okS (p := p) (t := t)
            refine ⟨_, rfl, w.me (i := 0) rfl (fun _ _ => rfl) ?_⟩
            refine consI ?_
            refine ⟨_, rfl, ?_⟩
            refine consI ?_
            refine ⟨_, rfl, ?_⟩
            refine nilI ?_
            refine w.allE (i := 0) rfl rfl hpS ht' (fun Gb r3 wb hr3 sb => ?_)
            refine ⟨_, rfl, dEs _, dEs _, dp_evs hr3, dp_evs (hev3.ext wb.ext), shaped_evs evOk, shaped_evs evOk, false, ?_, iteF ?_⟩
            · rw [PySem.SeqAt.eqv_refl _ (lay_evs evOk)]
              rfl
            have wb := wb.less 1
            have wb : Wd K (tbs K) A3 Gb [⟨d, fr, S, L0 ++ bs⟩] [] [] [] := wb
            have m120 : (S0.lie p t).length ≤ 120 := Nat.le_trans (hh0.lens p t) pl
            have elen : ((S0.lie p t).map V.int).length = (S0.lie p t).length := List.length_map ..
            refine ⟨_, rfl, al, _, rfl, .inl (SqL.of (hal3.ext wb.ext)), _, _, rfl, rfl, _, rfl, _, rfl, _, _, _, _, rfl, RgC.neg (by omega) (by omega) (by decide) (by decide), ?_⟩
            rw [show ((((S0.lie p t).map V.int).length : Int) - 1 - -1).toNat = (S0.lie p t).length by omega]
            have lft0 : Lft S0 S p t (lftN t (S0.lie p t).length 0) := by
              refine ⟨en, eP, ?_⟩
              rw [lie0, List.take_of_length_le]
              unfold lftN
              split <;> omega
            refine for_rangeC (lo := (((S0.lie p t).map V.int).length : Int) - 1) (c := -1) (n := (S0.lie p t).length) (fun k σ G => ∃ (v12 v13 : Option V) (S' : De) (bs' : List Line), σ = [some (.ref a), some (.int (i : Int)), some (.ref f), some (.ref d), some (.ref o), some (.ref tl), some (.int (p : Int)), some (.int (t : Int)), some (.ref r1), some (.ref al), some (.ref ab), some (oV (S0.now p t)), v12, v13, v14, v15, v16] ∧ Wd K (tbs K) A3 G [⟨d, fr, S', L0 ++ bs'⟩] [] [] [] ∧ Lft S0 S' p t (lftN t (S0.lie p t).length k) ∧ (∀ p' t', ¬ (p' = p ∧ t' = t) → S'.lie p' t' = S.lie p' t') ∧ (∀ n ∈ bs', ∃ p t k, n = .back p t k) ∧ bs'.length ≤ 1000 * p + 120 * t + k)
              ⟨_, _, S, bs, rfl, wb, lft0, fun _ _ _ => rfl, bks, bl⟩ ?_ ?_
            · rintro k σ G hk ⟨v12, v13, S', bs', rfl, w, lft, oth, bks', bl'⟩
              rw [show (((S0.lie p t).map V.int).length : Int) - 1 + ((k : Nat) : Int) * -1 = (((S0.lie p t).length - 1 - k : Nat) : Int) by omega]
              rw [lftN_at hk] at lft
              have hj : (S0.lie p t).length - 1 - k < (S0.lie p t).length := by omega
              have eN := lft.now (by omega)
              rw [List.getElem?_eq_getElem hj] at eN
              generalize hkk : (S0.lie p t)[(S0.lie p t).length - 1 - k] = kk at eN
              have eK : (S0.lie p t)[(S0.lie p t).length - 1 - k]? = some kk := by rw [List.getElem?_eq_getElem hj, hkk]
              obtain ⟨ok', _⟩ := w.ok (i := 0) rfl
              obtain ⟨kk0, u, eu, up', ut'⟩ := ok'.num.now eN
              have txu := (ok'.each _ u eu).2.2.1
              have ptu : S'.pt kk = u := De.pt_at eu
              rw [lft.puts] at eu
              refine ⟨_, rfl, w.me (i := 0) rfl (fun _ _ => rfl) ?_⟩
              refine consI ?_
              refine ⟨_, rfl, ?_⟩
              refine consI ?_
              refine ⟨_, rfl, ?_⟩
              refine nilI ?_
              refine w.now (i := 0) (D := ⟨d, fr, S', L0 ++ bs'⟩) rfl rfl (by show p < S'.n; rw [lft.n]; omega) ht' eN (fun Gd r4 wd hr4 => ?_)
              have hr4 : Gd r4 = some (.tup [.int kk, .str u.x]) := by rw [hr4]; show some (HO.tup [V.int kk, V.str (S'.pt kk).x]) = _; rw [ptu]
              have wd := wd.less 1
              have wd : Wd K (tbs K) A3 Gd [⟨d, fr, S', L0 ++ bs'⟩] [] [] [] := wd
              have hald := hal3.ext wd.ext
              have atk : atI ((S0.lie p t).map V.int) (((S0.lie p t).length - 1 - k : Nat) : Int) = some (V.int kk) := atI_nat (by rw [List.getElem?_map, eK]; rfl)
              have hhd : Here Gd o l e S0 := hh0.ext (xA3.trans wd.ext)
              obtain ⟨pvs, q4, hpv, atp, hq4⟩ := hhd.put_at kk0 eu
              refine ⟨_, rfl, _, rfl, al, _, _, _, rfl, rfl, SqL.of hald, atk, _, rfl, o, _, rfl, DGet.k (k := kU) hhd.top, _, rfl, _, rfl, al, _, _, _, rfl, rfl, SqL.of hald, atk, l, _, _, _, rfl, rfl, SqL.of hpv, atp, q4, _, _, _, rfl, rfl, SqT.of hq4, atI_nat (j := 2) rfl, (by show 2 ≤ sizeLine; decide), fun b5 nb5 => ?_⟩
              have we := wd.same (same_upd nb5 (o := .tup [.int kk, .str u.x]))
              refine ⟨dNx kk u.x, dNx kk u.x, .tup (SqT.of (same_upd nb5 _ _ hr4)) (.cons (.int _) (.cons (.str _) .nil)), .tup (SqT.of upd_same) (.cons (.int _) (.cons (.str _) .nil)), shaped_nx txu, shaped_nx txu, false, ?_, iteF ?_⟩
              · rw [PySem.SeqAt.eqv_refl _ (lay_nx txu)]
                rfl
              generalize upd Gd b5 (.tup [.int kk, .str u.x]) = Ge at we ⊢
              have may : (0 < (S0.lie p t).length - 1 - k ∨ 0 < t) → S'.May fr (.back p t) := fun hc => ⟨by rw [lft.n]; omega, ht', by rw [lft.here, List.length_take]; split <;> omega⟩
              have fin : (0 < (S0.lie p t).length - 1 - k ∨ 0 < t) → ∀ {Gf : Hp}, Wd K (tbs K) A3 Gf ([(⟨d, fr, S', L0 ++ bs'⟩ : Dk)].set 0 ⟨d, fr, S'.off p t, L0 ++ bs' ++ [.back p t kk]⟩) [] [] [] → Wd K (tbs K) A3 Gf [⟨d, fr, S'.off p t, L0 ++ (bs' ++ [.back p t kk])⟩] [] [] [] ∧ Lft S0 (S'.off p t) p t (lftN t (S0.lie p t).length (k + 1)) ∧ (∀ p' t', ¬ (p' = p ∧ t' = t) → (S'.off p t).lie p' t' = S.lie p' t') ∧ (∀ n ∈ bs' ++ [.back p t kk], ∃ p t k, n = .back p t k) ∧ (bs' ++ [Line.back p t kk]).length ≤ 1000 * p + 120 * t + (k + 1) := fun hc Gf wf => by
                refine ⟨by rw [← List.append_assoc]; exact wf, ?_, fun p' t' h => (off_other h).trans (oth p' t' h), fun n hn => ?_, ?_⟩
                · rw [lftN_back hk hc]
                  exact lft.off (by omega)
                · rcases List.mem_append.mp hn with z | z
                  · exact bks' n z
                  · exact ⟨p, t, kk, List.mem_singleton.mp z⟩
                · rw [List.length_append, List.length_singleton]
                  omega
              have fin' : ¬ (0 < (S0.lie p t).length - 1 - k ∨ 0 < t) → Lft S0 S' p t (lftN t (S0.lie p t).length (k + 1)) := fun hc => by rw [lftN_stay hk hc]; exact lft
              refine ⟨_, rfl, _, _, rfl, rfl, decide ((0 : Int) < (((S0.lie p t).length - 1 - k : Nat) : Int)), rfl, ?_⟩
              by_cases c1 : (0 : Int) < (((S0.lie p t).length - 1 - k : Nat) : Int)
              · rw [decide_eq_true c1]
                have hc : 0 < (S0.lie p t).length - 1 - k ∨ 0 < t := .inl (by omega)
                refine iteT (iteT ?_)
                refine ⟨_, rfl, we.me (i := 0) rfl (fun _ _ => rfl) ?_⟩
                refine consI ?_
                refine ⟨_, rfl, ?_⟩
                refine consI ?_
                refine ⟨_, rfl, ?_⟩
                refine nilI ?_
                refine we.backL (i := 0) rfl rfl (may hc) eN (by rw [List.length_append]; omega) (fun Gf wf => ?_)
                refine ⟨_, rfl, _, rfl, al, _, _, _, rfl, rfl, SqL.of (hal3.ext wf.ext), atk, ?_⟩
                refine neS (x := .int kk) (y := .int kk) rfl rfl ?_
                exact ⟨false, rfl, iteF (let ⟨z1, z2, z3, z4, z5⟩ := fin hc wf; ⟨_, _, _, _, rfl, z1, z2, z3, z4, z5⟩)⟩
              · rw [decide_eq_false c1]
                refine iteF ⟨_, rfl, _, _, rfl, rfl, decide ((0 : Int) < (t : Int)), rfl, ?_⟩
                by_cases c2 : (0 : Int) < (t : Int)
                · rw [decide_eq_true c2]
                  have hc : 0 < (S0.lie p t).length - 1 - k ∨ 0 < t := .inr (by omega)
                  refine iteT ?_
                  refine ⟨_, rfl, we.me (i := 0) rfl (fun _ _ => rfl) ?_⟩
                  refine consI ?_
                  refine ⟨_, rfl, ?_⟩
                  refine consI ?_
                  refine ⟨_, rfl, ?_⟩
                  refine nilI ?_
                  refine we.backL (i := 0) rfl rfl (may hc) eN (by rw [List.length_append]; omega) (fun Gf wf => ?_)
                  refine ⟨_, rfl, _, rfl, al, _, _, _, rfl, rfl, SqL.of (hal3.ext wf.ext), atk, ?_⟩
                  refine neS (x := .int kk) (y := .int kk) rfl rfl ?_
                  exact ⟨false, rfl, iteF (let ⟨z1, z2, z3, z4, z5⟩ := fin hc wf; ⟨_, _, _, _, rfl, z1, z2, z3, z4, z5⟩)⟩
                · rw [decide_eq_false c2]
                  exact iteF ⟨_, _, S', bs', rfl, we, fin' (by omega), oth, bks', by omega⟩
            · rintro σ G ⟨v12, v13, S', bs', rfl, w, lft, oth, bks', bl'⟩
              rw [lftN_end] at lft
              have evS : S'.ever p t = S.ever p t := by
                rw [lft.ever]
                unfold De.ever
                rw [eP]
              have hpS' : p < S'.n := by rw [lft.n]; omega
              have hlen : (S'.lie p t).length ≤ (if t = 0 then 1 else 0) := by
                rw [lft.here, List.length_take]
                omega
              have others : ∀ p' t', p < p' ∨ (p' = p ∧ t + 1 ≤ t') → S'.lie p' t' = S0.lie p' t' := fun p' t' h => (oth p' t' (by omega)).trans (lies p' t' (by omega))
              refine ⟨_, rfl, w.me (i := 0) rfl (fun _ _ => rfl) ?_⟩
              refine consI ?_
              refine ⟨_, rfl, ?_⟩
              refine consI ?_
              refine ⟨_, rfl, ?_⟩
              refine nilI ?_
              refine w.allE (i := 0) rfl rfl hpS' ht' (fun Gb r3 wb hr3 sb => ?_)
              rw [evS] at hr3
              refine ⟨_, rfl, dEs _, dEs _, dp_evs hr3, dp_evs (hev3.ext wb.ext), shaped_evs evOk, shaped_evs evOk, false, ?_, iteF ?_⟩
              · rw [PySem.SeqAt.eqv_refl _ (lay_evs evOk)]
                rfl
              have wb := wb.less 1
              have wb : Wd K (tbs K) A3 Gb [⟨d, fr, S', L0 ++ bs'⟩] [] [] [] := wb
              refine ⟨_, rfl, wb.me (i := 0) rfl (fun _ _ => rfl) ?_⟩
              refine consI ?_
              refine ⟨_, rfl, ?_⟩
              refine consI ?_
              refine ⟨_, rfl, ?_⟩
              refine nilI ?_
              by_cases c0 : t = 0
              · subst c0
                have ne0 : 0 < (S0.lie p 0).length := List.length_pos_iff.mpr (ok0.src p hpn)
                have eN := Lft.now (c := 0) lft (by omega)
                rw [List.getElem?_eq_getElem ne0] at eN
                refine wb.now (i := 0) (D := ⟨d, fr, S', L0 ++ bs'⟩) (t := 0) rfl rfl hpS' ht' eN (fun Gz r4 wz hr4 => ?_)
                have wz := wz.less 1
                have wz : Wd K (tbs K) A3 Gz [⟨d, fr, S', L0 ++ bs'⟩] [] [] [] := wz
                refine ⟨rfl, _, rfl, _, _, rfl, rfl, ?_⟩
                refine neS rfl (by rw [decide_eq_false (fun z => nomatch z)]; rfl) ?_
                refine ⟨false, rfl, iteF ?_⟩
                refine ⟨wz.tab, fun G5 e5 t5 => ?_⟩
                have w5 := wz.keepT e5 t5
                refine ⟨_, rfl, w5.me (i := 0) rfl (fun _ _ => rfl) ?_⟩
                refine consI ?_
                refine ⟨_, rfl, ?_⟩
                refine consI ?_
                refine ⟨_, rfl, ?_⟩
                refine nilI ?_
                refine w5.backNone (i := 0) rfl rfl hpS' ht' hlen (fun G6 w6 => ?_)
                refine ⟨false, T.e_Nothing_Overtaken, (fun z => nomatch z), fun _ => ⟨true, T.e_Nothing_Nothing, fun _ => ?_, fun z => nomatch z⟩⟩
                refine cI ?_
                refine neS (x := .str "nothing") (y := .str "nothing") rfl rfl ?_
                refine ⟨false, rfl, iteF ?_⟩
                exact ⟨_, _, _, _, _, _, _, _, _, _, A3, S', bs', rfl, w6, xA3, lft.n, lft.puts, others, bks', by omega⟩
              · have eN : S'.now p t = Option.none := by
                  unfold De.now
                  rw [lft.here, if_neg c0]
                  rfl
                refine wb.nowN (i := 0) (D := ⟨d, fr, S', L0 ++ bs'⟩) rfl rfl hpS' ht' eN (fun Gz wz => ?_)
                refine ⟨rfl, _, rfl, _, _, rfl, rfl, ?_⟩
                refine neS rfl (by rw [decide_eq_true rfl]; show _ = V.bl (decide ((0 : Int) < (t : Int))); rw [decide_eq_true (by omega)]) ?_
                refine ⟨false, rfl, iteF ?_⟩
                refine ⟨wz.tab, fun G5 e5 t5 => ?_⟩
                have w5 := wz.keepT e5 t5
                refine ⟨_, rfl, w5.me (i := 0) rfl (fun _ _ => rfl) ?_⟩
                refine consI ?_
                refine ⟨_, rfl, ?_⟩
                refine consI ?_
                refine ⟨_, rfl, ?_⟩
                refine nilI ?_
                refine w5.backNone (i := 0) rfl rfl hpS' ht' hlen (fun G6 w6 => ?_)
                refine ⟨false, T.e_Nothing_Overtaken, (fun z => nomatch z), fun _ => ⟨true, T.e_Nothing_Nothing, fun _ => ?_, fun z => nomatch z⟩⟩
                refine cI ?_
                refine neS (x := .str "nothing") (y := .str "nothing") rfl rfl ?_
                refine ⟨false, rfl, iteF ?_⟩
                exact ⟨_, _, _, _, _, _, _, _, _, _, A3, S', bs', rfl, w6, xA3, lft.n, lft.puts, others, bks', by omega⟩
        · rintro σ G ⟨v7, v8, v9, v10, v11, v12, v13, v14, v15, v16, A, S, bs, rfl, w, xA', en, eP, lies, bks, bl⟩
          rw [List.length_map] at bl lies
          exact ⟨_, _, _, _, _, _, _, _, _, _, _, A, S, bs, rfl, w, xA', en, eP, (fun p' t' h => lies p' t' (.inl (by omega))), bks, by omega⟩
      · rintro σ G ⟨v6, v7, v8, v9, v10, v11, v12, v13, v14, v15, v16, A, S, bs, rfl, w, xA', en, eP, lies, bks, bl⟩
        have bl6 : bs.length ≤ 6000 := by omega
        refine ⟨_, rfl, w.me (i := 0) rfl (fun _ _ => rfl) ?_⟩
        refine nilI ?_
        refine w.taleR (i := 0) rfl rfl (fun Ga ra wa hra sa => ?_)
        obtain ⟨xs, hxs, axs⟩ := id hra
        refine ⟨_, xs, rfl, .inl (SqL.of hxs), ?_⟩
        obtain ⟨ts, hts, ats⟩ := ht0.ext (xA'.trans wa.ext)
        refine ⟨_, rfl, tl, ts, rfl, .inl (SqL.of hts), _, _, rfl, rfl, ?_⟩
        refine ⟨_, rfl, wa.me (i := 0) rfl (fun _ _ => rfl) ?_⟩
        refine nilI ?_
        refine wa.taleR (i := 0) rfl rfl (fun Gb rb wb hrb sb => ?_)
        obtain ⟨ys, hys, ays⟩ := id hrb
        refine ⟨_, rfl, tl, ts, rfl, .inl (SqL.of (sb _ _ hts)), _, rfl, rb, ys, rfl, SqL.of hys, fun C nC => ?_⟩
        rw [ats.len, cutFromL]
        have sC := same_upd nC (o := .lst (ys.drop L0.length))
        have wC := wb.same sC
        have hC : (upd Gb C (.lst (ys.drop L0.length))) C = some (.lst (ys.drop L0.length)) := upd_same
        have aC : All2 (LnV (upd Gb C (.lst (ys.drop L0.length)))) (ys.drop L0.length) bs := by
          have z := ays.mono fun _ _ ⟨q, x, y⟩ => (⟨q, x, sC _ _ y⟩ : LnV (upd Gb C (.lst (ys.drop L0.length))) _ _)
          have len := ays.len
          rw [List.length_append] at len
          refine ⟨by rw [List.length_drop, len]; omega, fun j n en => ?_⟩
          obtain ⟨v, e1, e2⟩ := z.each (L0.length + j) n (by rw [List.getElem?_append_right (by omega)]; rw [show L0.length + j - L0.length = j by omega]; exact en)
          exact ⟨v, by rw [List.getElem?_drop]; exact e1, e2⟩
        generalize upd Gb C (.lst (ys.drop L0.length)) = Gc at wC hC aC ⊢
        generalize ys.drop L0.length = cs at hC aC
        refine ⟨C, rfl, ⟨_, SqL.of hC⟩, fun R nR => ?_⟩
        refine lc_list (K := K) (a := C) (xs := cs) (fun i G3 => Same Gc G3 ∧ G3 R = some (.lst (cs.take i))) ⟨same_upd nR, upd_same⟩ (fun i G3 _ z => SqL.of (z.1 _ _ hC)) ?_ ?_
        · rintro j v G3 hv ⟨s3, hR⟩
          obtain ⟨y, ey, u, rfl, hu'⟩ := aC.at hv
          obtain ⟨p, t, kk, rfl⟩ := bks y (List.mem_of_getElem? ey)
          refine ⟨rfl, _, rfl, u, _, _, _, rfl, rfl, SqT.of (s3 _ _ hu'), atI_nat (j := 0) rfl, rfl, true, rfl, iteT ?_⟩
          refine ⟨_, rfl, _, hR, ?_, Same.chg s3 nR, ?_⟩
          · rw [List.length_take, aC.len]
            exact small100k (by omega)
          · rw [upd_same, List.take_add_one, hv, Option.toList_some]
        rintro G3 ⟨s3, hR⟩
        rw [List.take_length] at hR
        refine ⟨R, _, rfl, .inl (SqL.of hR), ?_⟩
        refine neS rfl ?_ ?_
        · show V.int ((xs.length : Int) - (L0.length : Int)) = V.int (cs.length : Int)
          rw [axs.len, aC.len, List.length_append]
          congr 1
          omega
        refine ⟨false, rfl, iteF ?_⟩
        have wZ := (wC.same s3)
        exact ⟨_, _, _, _, _, _, _, _, _, _, _, _, _, _, _, _, rfl, (x1.trans xA).trans (xA'.trans wZ.ext), wZ.tab⟩
    · rintro σ G1 ⟨v1, v2, v3, v4, v5, v6, v7, v8, v9, v10, v11, v12, v13, v14, v15, v16, rfl, x1, T1⟩
      exact q G1

end PD

namespace PD
open PySem PySem.Spec PyProof.Rows L2
theorem facts {P : Program} {w : World} {K : PySem.W.Frag} {h : Heap} {mg : Str → Option Value} {f : Addr} (X : K.In h) (G : h.Ns mainGlobals mg) (hfa : mg ("law" : Str) = some (.ref f)) (c : He.SaysX fa fn [] tfs ex w h K) :
    ∃ fd : FuncData, (∀ (t : Shared) (v : Value), BindsTo t fd ⟨[v], []⟩ [("_law_script", v)]) ∧ ∀ base : Heap, K.In base → base.Ns mainGlobals mg → (∀ p ∈ tfs.map (He.cT K), LamX.TabB base mg p.1 p.2) → FnG P w K mg base 11 f fd ["_law_script"] (spLaw K) := by
  have T : Tx K mg := tx_mk X G c
  obtain ⟨fd, F⟩ := T.F_law
  have e := hfa.symm.trans T.g_law
  cases e
  have b := FunD.bindsA (ps := ["_law_script"]) F fun _ _ _ _ _ _ us hl => match us, hl with | [_], _ => rfl
  refine ⟨fd, fun t v => b t [v] rfl, fun base _ _ hB => lawG T (tb_mk hB) F⟩
end PD
open PySem PySem.W PySem.Calls PyProof.Rows
set_option maxRecDepth 100000 in
set_option maxHeartbeats 0 in
theorem PySem.Challenge.cw_phrasedesk_k02_whole_nothing_lost_holds : PySem.Challenge.rw_phrasedesk_k02_whole_nothing_lost.Holds := by
  w_on; o_law
  refine HandSHeadRun.head_any (r := OpenLaw.row PySem.Challenge.rw_phrasedesk_k02_whole_nothing_lost) (q := view (OpenLaw.row PySem.Challenge.rw_phrasedesk_k02_whole_nothing_lost).prog [47]) (H := PD.hk) (ob := PD.ob) (M := 6000) (loose := PD.loose) (d := HandSHeadRun.topDef (OpenLaw.row PySem.Challenge.rw_phrasedesk_k02_whole_nothing_lost).prog 47) (kwd := []) PD.ob_eq
    (by kernel_rfl) (fun s => by kernel_rfl) PD.run (by kernel_rfl) (by kernel_rfl) (by kernel_rfl) (by rfl) (by first | assumption | decide +kernel) (by decide +kernel) ⟨rfl, rfl, rfl, rfl, rfl, by decide +kernel⟩ ?hw ?hc
  case hw => w_witness2
  case hc =>
    refine PD.walkT (l := PySem.Challenge.rw_phrasedesk_k02_whole_nothing_lost) (n := 63) (lv := 11) (x := "_law_script") rfl (by decide) (by kernel_rfl) ⟨rfl, by decide, by decide⟩ ?F
    intro w mg fa h Y G hmg0
    obtain ⟨K, KX, c⟩ := Y
    have hmg : mg ("law" : PySem.Str) = some (.ref fa) := by
      have e : (HandSHeadRun.topDef (OpenLaw.row PySem.Challenge.rw_phrasedesk_k02_whole_nothing_lost).prog 47).name = ("law" : PySem.Str) := by kernel_rfl
      rw [← e]
      exact hmg0
    obtain ⟨fd, hb, hF⟩ := PD.facts (P := (PySem.Challenge.rw_phrasedesk_k02_whole_nothing_lost).prog) (w := w) KX G hmg c
    refine ⟨K, fd, PD.spLaw K, PD.tfs.map (He.cT K), KX, ?_, ?_, ?_, hb, fun G' a ns _ ht hS => ⟨a, ns, rfl, ht, hS, fun _ => rfl⟩, hF⟩
    · intro p hp
      obtain ⟨d, hd, rfl⟩ := List.mem_map.mp hp
      exact c.empty d hd
    · intro p hp
      obtain ⟨d, hd, rfl⟩ := List.mem_map.mp hp
      exact c.out d hd
    · intro p hp
      obtain ⟨d, hd, rfl⟩ := List.mem_map.mp hp
      exact PySem.W.codeHd_of_K KX (c.hd d hd)
