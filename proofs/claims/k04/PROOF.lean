import PyProof.Rows.All
import Wide.All
import OpenK.AllK
import Wide.FinOn
import HandS.ForMost
import HandS.ForExc
import HandS.IsInst
import HandS.Style
import HandS.Conv
import HandS.Wide
import HandS.Walk
import HandS.Defaults
import HandS.Codes
import PyProof.ReprRoads
import KE.KStateDown
import HandS.More
import HandS.Head0
import HandS.Head1
import HandS.Head2
import HandS.HeadEnd
import HandS.HeadHook1
import HandS.HeadHook2
import HandS.HeadHook3
import HandS.HeadHook4
import PySem.Challenge.RW_phrasedesk_k04_whole_told
set_option Elab.async false
set_option linter.all false
set_option maxRecDepth 100000
set_option maxHeartbeats 0
/-! Phrasedesk, part 0: what every law needs over the hand layer: promises of defs that write data out as texts, a class without an __init__ of its own, rows and froms on the heap, chains. -/
namespace PD
open PySem PySem.Spec PyProof.Rows L2

/-! ### promises kept where nothing is being written out around -/
structure FnG (P : Program) (w : World) (K : PySem.W.Frag) (mg : Str → Option Value) (base : Heap) (lv : Nat) (f : Addr) (fd : FuncData) (ps : List Str) (sp : Sp) : Prop where
  many : ∀ xs G Q E, sp xs G Q E → xs.length = ps.length
  goes : ∀ (B : Around) (fr : List Env) (z : Shared) (G : Hp) (ar : Args) (us : List Value) (xs : List V) (Q : VK) (E : XK), B.guards = some [] → Room lv B →
    Env0 P w K mg base B fr z G → BindsTo z fd ar (ps.zip us) → Vals xs us → sp xs G Q E → codeAny (model P w) B (.call (.ref f) ar) (CR CX0 fr P w G z Q E) z

section
variable {P : Program} {w : World} {K : PySem.W.Frag} {mg : Str → Option Value} {base : Heap}
theorem FnG.of {lv : Nat} {f : Addr} {fd : FuncData} {ps : List Str} {sp : Sp} (F : FnOk P w K mg base CX0 lv f fd ps sp) : FnG P w K mg base lv f fd ps sp :=
  ⟨F.len, fun B fr z G ar us xs Q E _ hr e0 hb hv hs => F.run B fr z G ar us xs Q E hr e0 hb hv hs⟩
theorem FnG.up {lv m : Nat} {f : Addr} {fd : FuncData} {ps : List Str} {sp : Sp} (F : FnG P w K mg base lv f fd ps sp) (h : lv ≤ m) : FnG P w K mg base m f fd ps sp :=
  ⟨F.many, fun B fr z G ar us xs Q E hg hr => F.goes B fr z G ar us xs Q E hg (hr.mono h)⟩

/-- a def's body as a term of rules and its reading, where nothing is being written out -/
theorem okG {x qual : Str} {params : Arguments} {body : List Stmt} {scope : Scope} {dvs : List V} {kws : List (Str × V)} {f : Addr} {fd : FuncData} {N ps : List Str} {lv : Nat} {sp : Sp}
    (F : FunD K x qual params body scope dvs kws f fd) (S : FnScope N ps scope) (len : ∀ xs G Q E, sp xs G Q E → xs.length = ps.length)
    (bd : ∀ (cv : Value) (B : Around) (fr : List Env) (z : Shared) (G : Hp) (xs : List V) (Q : VK) (E : XK), (B.deeper (envOfC qual scope z.heap.objs.size f cv)).guards = some [] →
      Room lv (B.deeper (envOfC qual scope z.heap.objs.size f cv)) → sp xs G Q E →
      ∃ t, PSs (cxOf CX0 P w K mg base N qual scope f cv B fr z G E).nox body t ∧ t { nx := fun _ G' => Q .non G', rt := Q } (start N xs) G) :
    FnG P w K mg base (lv + 1) f fd ps sp := by
  obtain ⟨oc, od, dV, kV, doc, pm, an, cv, ct, sl, rfl, lk, hc, -, -⟩ := F.ex
  constructor
  · exact len
  · intro B fr z G ar us xs Q E hg hr e0 hb hv hs
    have hl := len xs G Q E hs
    have st : ∀ b o, base.get? b = some o → z.heap.get? b = some o := fun b o e => (e0.bs b o e).1
    have KZ : K.In z.heap := e0.mod.kin.keeps st
    have kinds : ∀ y ∈ ps.zip us, scope.names.lookup y.1 = some .local ∨
        (scope.names.lookup y.1 = some .cell ∧ ((cellsFrom (z.heap.objs.size + 1) scope.names []).lookup y.1).isSome = true) := by
      rintro ⟨n, v⟩ hy
      cases S.par n (List.of_mem_zip hy).1 with
      | inl q => exact .inl q
      | inr q => exact .inr ⟨q, PySem.W.cellsFrom_some _ _ _ (.inl q)⟩
    refine codeAny_call_function hr.depth (KZ _ _ lk) rfl S.co S.gen rfl (PySem.W.codeRec_of KZ hc) (hb _ _ _ _ ?_)
    refine wpAny_newFunctionEnv_cells S.kind kinds ?_
    intro env ee z1 ic
    cases ee
    refine ⟨(e0.mod.nolimit.keeps st).keeps ic.toInCall.keep, codeAny_func ?_⟩
    obtain ⟨t, ht, q⟩ := bd cv B fr z G xs Q E hg (hr.deeper _) hs
    have I : Inv (cxOf CX0 P w K mg base N qual scope f cv B fr z G E) [] (start N xs) G z1 := inv_start S hr.hd e0 hl hv ic
    refine wpAny_mono (ht.nox.run [] z1 (start N xs) G _ I q) ?_ fun e z2 h2 => h2
    intro fl z2 h2
    cases fl with
    | ret u =>
      obtain ⟨v, σ', G', J, rv, q2⟩ := h2
      exact ⟨v, G', J.os, J.bare, J.base, J.hok, rv, q2⟩
    | next =>
      obtain ⟨σ', G', J, q2⟩ := h2
      exact ⟨V.non, G', J.os, J.bare, J.base, J.hok, rfl, q2⟩
    | brk => exact h2.elim fun _ h3 => h3.elim fun _ h4 => False.elim h4.2
    | cont => exact h2.elim fun _ h3 => h3.elim fun _ h4 => False.elim h4.2
end

section
variable {X : Cx} {lv : Nat} {f : Addr} {fd : FuncData} {ps : List Str} {sp : Sp} {x : Str} {p pos : Pos} {e : Expr} {es : List Expr} {t : TA}
theorem runG {pins : List (Addr × Obj)} {σ : L2.St} {G : Hp} {z : Shared} {Q : VK} {us : List Value} {xs : List V} (F : FnG X.prog X.w X.K X.mg X.base lv f fd ps sp) (hg : X.A.guards = some []) (hr : Room lv X.A)
    (hb : Binds X.K fd ps []) (I : Inv X pins σ G z) (r : Vals xs us) (h : sp xs G Q E0) : wpAny (model X.prog X.w) X.A (call (.ref f) us) (EP X pins σ Q) X.xe z := by
  have hl : (us ++ []).length = ps.length := by
    rw [List.append_nil, ← r.length]
    exact F.many _ _ _ _ h
  have hbd := hb z us I.kIn hl
  rw [List.append_nil] at hbd
  refine wpAny_call (codeAny_mono (F.goes X.A X.stack z G ⟨us, []⟩ us xs Q E0 hg hr I.env0 hbd r h) ?_)
  intro res z2 hq
  cases res with
  | error er => exact (show False from hq).elim
  | ok fl =>
    cases fl with
    | ret u => exact I.after hq
    | next => exact (show False from hq).elim
    | brk => exact (show False from hq).elim
    | cont => exact (show False from hq).elim
/-- f(e, ..), f such a def -/
theorem pe_callG (F : FnG X.prog X.w X.K X.mg X.base lv f fd ps sp) (hgd : X.A.guards = some []) (hr : Room lv X.A) (hg : Gl X x) (hm : X.mg x = some (.ref f)) (hk : PySem.W.keepIn X.K (.ref f) = true)
    (hb : Binds X.K fd ps []) (ha : PA X (e :: es) t) (hdb : (x == ("__debug__" : Str)) = false := by decide)
    (he : starEach (e :: es) X.env = (false, eval e X.env) :: starEach es X.env := by rfl) (hpl : (backTo pos (starEach es X.env)).any (·.1) = false := by rfl) :
    PE X (.Call (.Name x p) (e :: es) [] pos) (fun σ G Q => t σ G fun xs G1 => sp xs G1 Q E0) := by
  constructor
  intro pins z σ G Q I h
  refine wpAny_Call_Name_kw (ld_glob I hg hm ?_ hdb)
  refine PySem.W.callWith_K (h₀ := X.base) I.ok.mod.kin hk (thn (ha.run pos pins z σ G _ I h) ?_) he hpl
  rintro us z1 ⟨xs, G1, I1, r, q⟩
  exact ⟨I1.kIn, runG F hgd hr hb I1 r q⟩

/-! ### str(data) -/
def rStrD (K : PySem.W.Frag) : List V → Hp → VK → Prop := fun xs G Q => ∃ (a : Addr) (d : PyData), xs = [.ref a] ∧ Dp K G (.ref a) d ∧ d.showable = true ∧ d.hasDict = false ∧
  d.depth ≤ 60 ∧ d.shown.length ≤ sizeLine ∧ Q (.str d.shown) G
theorem call_strD (hg : X.A.guards = some []) (hu : X.A.units + 64 < cLine) : CallR X (.type "str") (rStrD X.K) := by
  intro pins z σ G xs us Q I r h
  obtain ⟨a, d, rfl, dp, hs, hd, hz, hl, q⟩ := h
  obtain ⟨u, rfl, r1⟩ := vals1 r
  cases (show u = Value.ref a from r1)
  obtain ⟨as, rd⟩ := Dp.reads I d (.ref a) (.ref a) dp rfl
  refine str_of_reads rd hs (fun e => by rw [hd] at e; cases e) hg (by omega) (fun b o e => e) (fun h' u tk hk => ?_) hl
  exact ⟨.str d.shown, G, I.kept (h' := h') (t' := tk) hk, ⟨u, rfl⟩, q⟩

/-! ### C() of a class without an __init__ of its own -/
def tBare (C : Addr) : TE := fun _ G Q => ∀ y dy, G y = none → G dy = none → dy ≠ y → Q (.ref y) (upd (upd G dy (.own y)) y (.ins C dy []))
structure Bare (K : PySem.W.Frag) (C : Addr) : Prop where
  makes : PySem.W.makesIn K C = true
  init : PySem.W.findIn K (.ref C) "__init__" = some (some (.builtin "object.__init__"))
  kp : PySem.W.keepIn K (.ref C) = true
theorem pe_bare {C : Addr} (M : Bare X.K C) (hg : Gl X x) (hm : X.mg x = some (.ref C)) (hdb : (x == ("__debug__" : Str)) = false := by decide) : PE X (.Call (.Name x p) [] [] pos) (tBare C) := by
  constructor
  intro pins z σ G Q I h
  refine wpAny_Call_Name_kw (ld_glob I hg hm ?_ hdb)
  refine PySem.W.callWith_K0 I.kIn M.kp ?_
  have J := Inv.made (C := C) I
  have q := h (z.heap.objs.size + 1) z.heap.objs.size (I.hok.fresh (Nat.le_succ _)) (I.hok.fresh (Nat.le_refl _)) (Nat.ne_of_lt (Nat.lt_succ_self _))
  have Y := PySem.W.makes_of (M := model X.prog X.w) I.kIn M.makes
  refine wpAny_call (make_map0 I.kIn M.makes M.init (fun self => PySem.W.Looks.of_pure (PySem.W.oi_bind self)) ?_)
  have at1 : ((z.heap.push PySem.W.emptyDict).push (PySem.W.instObj C z.heap.objs.size)).get? (z.heap.objs.size + 1) = some (PySem.W.instObj C z.heap.objs.size) := by
    have g := Heap.get?_push_size (z.heap.push PySem.W.emptyDict) (o := PySem.W.instObj C z.heap.objs.size) rfl
    rwa [Heap.size_push] at g
  have ty : PySem.W.Looks (model X.prog X.w) ((z.heap.push PySem.W.emptyDict).push (PySem.W.instObj C z.heap.objs.size)) (typeOf (.ref (z.heap.objs.size + 1))) (.ref C) := (PySem.W.Looks.ld at1).andThen .now
  have io : PySem.W.Looks (model X.prog X.w) ((z.heap.push PySem.W.emptyDict).push (PySem.W.instObj C z.heap.objs.size)) (isInstance (.ref (z.heap.objs.size + 1)) (.type "object")) true :=
    ty.andThen (Y.top.keeps fun b o e => Heap.get?_push_of_some _ (Heap.get?_push_of_some _ e))
  refine codeAny_call_builtin PySem.W.oi_plain PySem.W.entry_oi
    (@PySem.W.check_slot (model X.prog X.w) _ _ _ "object.__init__" "object" "__init__" (.ref (z.heap.objs.size + 1)) [] [] _ PySem.W.oi_kind PySem.W.oi_split io (PySem.W.oi_args (.ref (z.heap.objs.size + 1))) ?_)
  rw [PySem.W.oi_run]
  exact wpAny_pure (And.intro rfl ⟨.ref (z.heap.objs.size + 1), _, J, rfl, q⟩)
end
/-! ### defs of the text, from the head's facts -/
section
variable {P : Program} {w : World} {K : PySem.W.Frag} {mg : Str → Option Value} {base : Heap} {x qual : Str} {st : Stmt} {f : Addr} {N ps : List Str} {k : Nat} {sp : Sp}
/-- how a def without defaults binds -/
abbrev BindOk (x qual : Str) (st : Stmt) (ps : List Str) : Prop := ∀ (kV doc pm : Value) (an : Option Addr) (cdv ct : Value) (us : List Value), us.length = ps.length →
  bindArgs (PySem.W.fnOf x qual (defArgs st) (defBody st) (defScope st) .none kV doc pm an cdv ct) ⟨us, []⟩ = pure (ps.zip us)
abbrev BodyOk (P : Program) (w : World) (K : PySem.W.Frag) (mg : Str → Option Value) (base : Heap) (qual : Str) (st : Stmt) (f : Addr) (N : List Str) (k : Nat) (sp : Sp) : Prop :=
  ∀ (cdv : Value) (A : Around) (outer : List Env) (s : Shared) (H : Hp) (vs : List V) (Q : VK) (E : XK), Room k (A.deeper (envOfC qual (defScope st) s.heap.objs.size f cdv)) → sp vs H Q E →
    ∃ t, PSs (cxOf CX0 P w K mg base N qual (defScope st) f cdv A outer s H E).nox (defBody st) t ∧ t { nx := fun _ H' => Q .non H', rt := Q } (start N vs) H
theorem fnD {fd : FuncData} (F : FunD K x qual (defArgs st) (defBody st) (defScope st) [] [] f fd) (S : FnScope N ps (defScope st)) (len : ∀ vs H Q E, sp vs H Q E → vs.length = ps.length)
    (b : BodyOk P w K mg base qual st f N k sp) : FnOk P w K mg base CX0 (k + 1) f fd ps sp := by
  refine F.ok S len ?_
  intro cdv A outer s H vs Q E hr h
  obtain ⟨t, h1, h2⟩ := b cdv A outer s H vs Q E hr h
  exact ⟨t, h1.nox, h2⟩
theorem calD (F : ∃ fd, FunD K x x (defArgs st) (defBody st) (defScope st) [] [] f fd) (hm : mg x = some (.ref f)) (hb : BindOk x x st ps) (S : FnScope N ps (defScope st)) (len : ∀ vs H Q E, sp vs H Q E → vs.length = ps.length)
    (b : BodyOk P w K mg base x st f N k sp) : C8.Cal P w K mg base (k + 1) x sp [] := by
  obtain ⟨fd, F⟩ := F
  exact ⟨f, fd, ps, [], fnD F S len b, hm, F.kp, F.bindsN hb, .nil⟩
theorem metD {C : Addr} {m : Str} (F : ∃ fd, FunD K m qual (defArgs st) (defBody st) (defScope st) [] [] f fd) (c : Cls K C) (hm : Meth K C m f) (hb : BindOk m qual st ps) (S : FnScope N ps (defScope st)) (len : ∀ vs H Q E, sp vs H Q E → vs.length = ps.length)
    (b : BodyOk P w K mg base qual st f N k sp) : C8.Met P w K mg base (k + 1) C m sp [] := by
  obtain ⟨fd, F⟩ := F
  exact ⟨f, fd, ps, [], c, hm, fnD F S len b, F.bindsN hb, .nil⟩
theorem makD {C : Addr} (F : ∃ fd, FunD K "__init__" qual (defArgs st) (defBody st) (defScope st) [] [] f fd) (M : Mk K C f) (hg : mg x = some (.ref C)) (hb : BindOk "__init__" qual st ps) (S : FnScope N ps (defScope st)) (len : ∀ vs H Q E, sp vs H Q E → vs.length = ps.length)
    (b : BodyOk P w K mg base qual st f N k sp) : C8.Mak P w K mg base (k + 1) x C sp [] := by
  obtain ⟨fd, F⟩ := F
  exact ⟨f, fd, ps, [], M, fnD F S len b, hg, F.bindsN hb, .nil⟩
/-- a def that writes data out, or calls one that does -/
structure CalG (P : Program) (w : World) (K : PySem.W.Frag) (mg : Str → Option Value) (base : Heap) (k : Nat) (x : Str) (sp : Sp) : Prop where
  ex : ∃ (f : Addr) (fd : FuncData) (ps : List Str), FnG P w K mg base k f fd ps sp ∧ mg x = some (.ref f) ∧ PySem.W.keepIn K (.ref f) = true ∧ Binds K fd ps []
theorem calG (F : ∃ fd, FunD K x x (defArgs st) (defBody st) (defScope st) [] [] f fd) (hm : mg x = some (.ref f)) (hb : BindOk x x st ps) (S : FnScope N ps (defScope st)) (len : ∀ vs H Q E, sp vs H Q E → vs.length = ps.length)
    (b : ∀ (cv : Value) (B : Around) (fr : List Env) (z : Shared) (G : Hp) (xs : List V) (Q : VK) (E : XK), (B.deeper (envOfC x (defScope st) z.heap.objs.size f cv)).guards = some [] →
      Room k (B.deeper (envOfC x (defScope st) z.heap.objs.size f cv)) → sp xs G Q E →
      ∃ t, PSs (cxOf CX0 P w K mg base N x (defScope st) f cv B fr z G E).nox (defBody st) t ∧ t { nx := fun _ G' => Q .non G', rt := Q } (start N xs) G) : CalG P w K mg base (k + 1) x sp := by
  obtain ⟨fd, F⟩ := F
  exact ⟨f, fd, ps, okG F S len b, hm, F.kp, F.bindsN hb⟩
end
section
variable {X : Cx} {k j : Nat} {sp : Sp} {x : Str} {p pos : Pos} {e : Expr} {es : List Expr} {t : TA}
theorem pe_cG (c : CalG X.prog X.w X.K X.mg X.base k x sp) (hgd : X.A.guards = some []) (hr : Room j X.A) (hk : k ≤ j) (hg : Gl X x) (ha : PA X (e :: es) t) (hdb : (x == ("__debug__" : Str)) = false := by decide)
    (he : starEach (e :: es) X.env = (false, eval e X.env) :: starEach es X.env := by rfl) (hpl : (backTo pos (starEach es X.env)).any (·.1) = false := by rfl) :
    PE X (.Call (.Name x p) (e :: es) [] pos) (fun σ G Q => t σ G fun xs G1 => sp xs G1 Q E0) := by
  obtain ⟨f, fd, ps, F, hm, kp, b⟩ := c.ex
  exact pe_callG F hgd (hr.mono hk) hg hm kp b ha hdb he hpl
theorem pe_c0 (c : C8.Cal X.prog X.w X.K X.mg X.base k x sp []) (hr : Room j X.A) (hk : k ≤ j) (hg : Gl X x) (hdb : (x == ("__debug__" : Str)) = false := by decide) :
    PE X (.Call (.Name x p) [] [] pos) (tCall sp [] E0 tNil) := by
  obtain ⟨f, fd, ps, ds, F, hm, kp, b, d⟩ := c.ex
  exact pe_call0 F (hr.mono hk) hg hm kp b d pass0 hdb
end
/-! ### instances asked by isinstance -/
structure Ins1 (K : PySem.W.Frag) (C : Addr) : Prop where
  cls : PySem.W.findIn K (.ref C) "__class__" = some (some (.builtin "object.__class__"))
  get : PySem.W.specialIn K (.builtin "object.__class__") "__get__" = some (some (.builtin "getset_descriptor.__get__"))
  tak : PySem.W.takesIn K (.builtin "object.__class__") = some true
  mro : PySem.W.mroIn K C (.type "object") = some true
theorem Ins1.ty {K : PySem.W.Frag} {C a dx : Addr} {fs : List (Str × V)} {H : Hp} (i : Ins1 K C) (c : Cls K C) (e : H a = some (.ins C dx fs)) : TyX K H (.ref a) (.ref C) := .base (.ins e c i.cls i.get i.tak i.mro)
theorem is_ty {K : PySem.W.Frag} {a b : String} {r : Bool} (h : kitB a b = some r) : PySem.W.kitOne K (.type a) (.type b) = some r := h
/-! ### heaps -/
theorem same_upd {H : Hp} {p : Addr} {o : HO} (h : H p = none) : Same H (upd H p o) := fun b x e => by
  rw [upd_ne (ne_of_none e h)]
  exact e
theorem Same.tup {K : PySem.W.Frag} {H H' : Hp} {a : Addr} {xs : List V} (e : Same H H') (h : SqT K H a xs) : SqT K H' a xs := by
  rcases h with (h | ⟨o, h⟩) | h
  · exact .inl (.inl (e _ _ h))
  · exact .inl (.inr ⟨o, e _ _ h⟩)
  · exact .inr h
/-- a change of a list that was new leaves what was -/
theorem Same.chg {H H' : Hp} {p : Addr} {o : HO} (e : Same H H') (h : H p = none) : Same H (upd H' p o) := fun b x q => by
  rw [upd_ne (ne_of_none q h)]
  exact e b x q
/-! ### rows and froms -/
abbrev Cell := Option (Int × Option Int)
def oV : Option Int → V
  | none => .non
  | some i => .int i
def CellV (H : Hp) (v : V) : Cell → Prop
  | none => v = .non
  | some (a, b) => ∃ p, v = .ref p ∧ H p = some (.tup [.int a, oV b])
theorem CellV.same {H H' : Hp} (e : Same H H') {v : V} : ∀ {c : Cell}, CellV H v c → CellV H' v c
  | none, h => h
  | some (a, b), ⟨p, h1, h2⟩ => ⟨p, h1, e _ _ h2⟩
structure Cells (H : Hp) (vs : List V) (row : List Cell) : Prop where
  len : vs.length = row.length
  each : ∀ (i : Nat) (c : Cell), row[i]? = some c → ∃ v, vs[i]? = some v ∧ CellV H v c
theorem Cells.same {H H' : Hp} (e : Same H H') {vs : List V} {row : List Cell} (h : Cells H vs row) : Cells H' vs row :=
  ⟨h.len, fun i c q => let ⟨v, h1, h2⟩ := h.each i c q; ⟨v, h1, h2.same e⟩⟩
/-- a row stands at p -/
def RowAt (H : Hp) (p : Addr) (row : List Cell) : Prop := ∃ vs, H p = some (.lst vs) ∧ Cells H vs row
theorem RowAt.same {H H' : Hp} (e : Same H H') {p : Addr} {row : List Cell} (h : RowAt H p row) : RowAt H' p row :=
  let ⟨vs, h1, h2⟩ := h; ⟨vs, e _ _ h1, h2.same e⟩
/-- a list of ints stands at p -/
def LsAt (H : Hp) (p : Addr) (ns : List Int) : Prop := H p = some (.lst (ns.map V.int))
theorem LsAt.same {H H' : Hp} (e : Same H H') {p : Addr} {ns : List Int} (h : LsAt H p ns) : LsAt H' p ns := e _ _ h
structure FrOk (fr : List Int) : Prop where
  lo : 1 ≤ fr.length
  hi : fr.length ≤ 7
  each : ∀ (i : Nat) (x : Int), fr[i]? = some x → 0 ≤ x ∧ x ≤ (i : Int)
structure RowOk (fr : List Int) (row : List Cell) : Prop where
  len : row.length = fr.length + 1
  src : ∃ a, row[0]? = some (some (a, none)) ∧ 0 ≤ a
  each : ∀ (i : Nat) (c : Cell), row[i + 1]? = some c → c = none ∨ ∃ a b, c = some (a, some b) ∧ 0 ≤ a ∧ 0 ≤ b
/-! ### chains -/
def up (fr : List Int) (t : Nat) : Nat := (fr.getD (t - 1) 0).toNat
def brk (fr : List Int) (row : List Cell) (t : Nat) : Bool := match row.getD t none, row.getD (up fr t) none with
  | some (_, b), some (a, _) => !decide (b = some a)
  | _, _ => true
def chainN (fr : List Int) (row : List Cell) : Nat → Nat → Option (List Int)
  | 0, _ => none
  | n + 1, t => if t = 0 then none else if brk fr row t then some [(t : Int)] else (chainN fr row n (up fr t)).map ((t : Int) :: ·)
def chain (fr : List Int) (row : List Cell) (t : Nat) : Option (List Int) := chainN fr row (t + 1) t
section
variable {fr : List Int} {row : List Cell}
theorem FrOk.at (h : FrOk fr) {t : Nat} (h0 : 0 < t) (h1 : t ≤ fr.length) : ∃ x : Int, fr[t - 1]? = some x ∧ 0 ≤ x ∧ x < (t : Int) ∧ x = (up fr t : Int) := by
  have hl : t - 1 < fr.length := by omega
  have e : fr[t - 1]? = some fr[t - 1] := List.getElem?_eq_getElem hl
  obtain ⟨a, b⟩ := h.each _ _ e
  refine ⟨fr[t - 1], e, a, by omega, ?_⟩
  unfold up
  rw [List.getD_eq_getElem?_getD, e, Option.getD_some]
  omega
theorem up_lt (h : FrOk fr) {t : Nat} (h0 : 0 < t) (h1 : t ≤ fr.length) : up fr t < t := by
  obtain ⟨x, _, _, b, c⟩ := h.at h0 h1
  omega
theorem chainN_more (h : FrOk fr) : ∀ (n m t : Nat), t ≤ fr.length → t < n → t < m → chainN fr row n t = chainN fr row m t := by
  intro n
  induction n with
  | zero => intro m t _ h1; omega
  | succ n ih =>
    intro m t ht h1 h2
    obtain ⟨m, rfl⟩ : ∃ k, m = k + 1 := ⟨m - 1, by omega⟩
    unfold chainN
    by_cases h0 : t = 0
    · rw [if_pos h0, if_pos h0]
    · rw [if_neg h0, if_neg h0]
      have hu := up_lt h (by omega : 0 < t) ht
      rw [ih m (up fr t) (by omega) (by omega) (by omega)]
theorem chain_zero : chain fr row 0 = none := rfl
theorem chain_step (h : FrOk fr) {t : Nat} (h0 : 0 < t) (h1 : t ≤ fr.length) : chain fr row t = if brk fr row t then some [(t : Int)] else (chain fr row (up fr t)).map ((t : Int) :: ·) := by
  have hu := up_lt h h0 h1
  show chainN fr row (t + 1) t = _
  unfold chainN
  rw [if_neg (by omega)]
  unfold chain
  rw [chainN_more h t (up fr t + 1) (up fr t) (by omega) (by omega) (by omega)]
theorem chain_mem (h : FrOk fr) : ∀ (t : Nat) (c : List Int), t ≤ fr.length → chain fr row t = some c → c ≠ [] ∧ c.length ≤ t ∧ ∀ x ∈ c, 1 ≤ x ∧ x ≤ (t : Int) := by
  intro t
  induction t using Nat.strongRecOn with
  | _ t ih =>
    intro c ht e
    by_cases h0 : t = 0
    · subst h0
      cases e
    · rw [chain_step h (by omega) ht] at e
      have hu := up_lt h (by omega : 0 < t) ht
      split at e
      · have e2 := Option.some.inj e
        subst e2
        refine ⟨by simp, by simp; omega, ?_⟩
        intro x hx
        have : x = (t : Int) := by simpa using hx
        omega
      · obtain ⟨r, e1, e2⟩ := Option.map_eq_some_iff.mp e
        obtain ⟨_, h2, h3⟩ := ih _ hu r (by omega) e1
        subst e2
        refine ⟨by simp, by simp; omega, ?_⟩
        intro x hx
        rcases List.mem_cons.mp hx with q | q
        · omega
        · have := h3 x q
          omega
end
end PD

namespace PD
open PySem PySem.Spec PyProof.Rows L2
/-! ### the law's call, from a promise that is kept where nothing is being written out -/
section
variable {P : Program} {w : World} {K : PySem.W.Frag} {mg mb : Str → Option Value} {lv : Nat} {fa a : Addr} {fd : FuncData} {x : Str} {sp : Sp} {z : Shared} {us : List Value} {ns : List Int}
/-- from one abstract heap that tracks the script alone, or nothing -/
theorem call_from {G : Hp} (KZ : K.In z.heap) (hns : z.heap.Ns mainGlobals mg) (hbn : z.heap.Ns builtinsNs mb) (hbb : ∀ y : Str, y ≠ "__name__" → mb y = bootBuiltins y) (lim : z.heap.NoLimit) (hgn : z.gens = #[])
    (obj : z.heap.get? a = some { cls := .type "list", data := .seq us.toArray }) (room : Room lv callerA) (F : ∀ base : Heap, K.In base → base.Ns mainGlobals mg → FnG P w K mg base lv fa fd [x] sp)
    (bind : ∀ (t : Shared) (u : Value), BindsTo t fd ⟨[u], []⟩ [(x, u)]) (only : Only G) (goal : sp [.ref a] G (fun v _ => v = .bl true) fun _ _ _ => False) (ok : HOk P w G z.heap)
    (at_ : ∀ b, G b ≠ none → b = a) (out : G a ≠ none → K.lookup a = none) :
    codeAny (model P w) callerA (.call (.ref fa) ⟨[.ref a], []⟩) (fun r t => r = .ok (.ret (.bool true)) ∧ OldK z.heap t.heap ∧ t.os = z.os ∧ AllBare t.gens) z := by
  have stays : ∀ {b : Addr} {o : Obj}, z.heap.get? b = some o → G b = none → (hidT z.heap G).get? b = some o := fun e n => hidT_get e n
  have untracked : ∀ {b : Addr} {o : Obj} {es : Array DictEntry} {ep : Nat}, z.heap.get? b = some o → o.data = .dict es ep → G b = none := by
    intro b o es ep e d
    cases t : G b with
    | none => rfl
    | some v =>
      have eb : b = a := at_ b (by rw [t]; simp)
      rw [eb, obj] at e
      rw [← Option.some.inj e] at d
      have d2 : Data.seq us.toArray _ = Data.dict es ep := d
      cases d2
  have nsH : ∀ {b : Addr} {m : Str → Option Value}, z.heap.Ns b m → (hidT z.heap G).Ns b m := by
    rintro b m ⟨o, es, ep, e, d, r⟩
    exact ⟨o, es, ep, stays e (untracked e d), d, r⟩
  have KH : K.In (hidT z.heap G) := by
    intro b o e
    refine stays (KZ b o e) ?_
    cases t : G b with
    | none => rfl
    | some v =>
      have eb : b = a := at_ b (by rw [t]; simp)
      rw [eb] at e t
      rw [out (by rw [t]; simp)] at e
      cases e
  have md : Mod K mg (hidT z.heap G) := by
    obtain ⟨mc, h1, h2⟩ := lim
    exact ⟨KH, nsH hns, ⟨mb, nsH hbn, hbb⟩, ⟨mc, nsH h1, h2⟩⟩
  have e0 : Env0 P w K mg (hidT z.heap G) callerA [] z G := by
    refine ⟨rfl, md, fun b o e => of_hidT e, Nat.le_of_eq (hidT_size _ _), trivial, ?_, ok, .of_eq hgn⟩
    intro b hb
    exact absurd (show b ∈ ([] : List Addr) from hb) (by simp)
  have run := (F _ KH (nsH hns)).goes callerA [] z G ⟨[.ref a], []⟩ [.ref a] [.ref a] _ _ rfl room e0 (bind z (.ref a)) (.cons rfl .nil) goal
  refine codeAny_mono run ?_
  intro r t h
  cases r with
  | error er => exact (show False from h).elim
  | ok fl =>
    cases fl with
    | next => exact (show False from h).elim
    | brk => exact (show False from h).elim
    | cont => exact (show False from h).elim
    | ret u =>
      obtain ⟨v, G', os, bare, un, ok', rv, qv⟩ := h
      cases (show v = .bl true from qv)
      cases (show u = Value.bool true from rv)
      refine ⟨rfl, OldK.of_keep ?_, os, bare⟩
      intro b o e
      cases t2 : G b with
      | none => exact un.keep b o e t2 (fun m => absurd (show b ∈ ([] : List Addr) from m) (by simp)) (by simp)
      | some v =>
        rcases only b with n | ⟨ob, xs, n⟩
        · rw [t2] at n
          cases n
        · obtain ⟨q1, _⟩ := ok b _ n
          obtain ⟨q2, _⟩ := ok' b _ (un.frzs b ob _ n)
          rw [e] at q1
          rw [Option.some.inj q1]
          exact q2
theorem call_goes (KZ : K.In z.heap) (hns : z.heap.Ns mainGlobals mg) (hbn : z.heap.Ns builtinsNs mb) (hbb : ∀ y : Str, y ≠ "__name__" → mb y = bootBuiltins y) (lim : z.heap.NoLimit) (hgn : z.gens = #[])
    (obj : z.heap.get? a = some { cls := .type "list", data := .seq us.toArray }) (isn : IntsAre us ns) (small : ns.length ≤ sizeLine) (room : Room lv callerA) (F : ∀ base : Heap, K.In base → base.Ns mainGlobals mg → FnG P w K mg base lv fa fd [x] sp)
    (bind : ∀ (t : Shared) (u : Value), BindsTo t fd ⟨[u], []⟩ [(x, u)]) (goal : ∀ G : Hp, Only G → SqL K G a (ns.map V.int) → sp [.ref a] G (fun v _ => v = .bl true) fun _ _ _ => False) :
    codeAny (model P w) callerA (.call (.ref fa) ⟨[.ref a], []⟩) (fun r t => r = .ok (.ret (.bool true)) ∧ OldK z.heap t.heap ∧ t.os = z.os ∧ AllBare t.gens) z := by
  have rv := vals_ints isn
  have len := isn.length
  cases inK : K.lookup a with
  | some o =>
    have e := KZ a o inK
    rw [obj] at e
    have eo := Option.some.inj e
    subst eo
    have none1 : Only (fun _ => none) := fun _ => .inl rfl
    have sq : SqL K (fun _ => none) a (ns.map V.int) := .inr ⟨_, us.toArray, _, inK, rfl, rfl, rfl, by rw [List.size_toArray, len]; exact small, by simpa using rv⟩
    refine call_from (G := fun _ => none) KZ hns hbn hbb lim hgn obj room F bind none1 (goal _ none1 sq) ?_ (fun b n => absurd rfl n) fun n => absurd rfl n
    intro b u n
    have n2 : (none : Option HO) = some u := n
    cases n2
  | none =>
    let G : Hp := fun b => if b = a then some (.frz { cls := .type "list", data := .seq us.toArray } (.lst (ns.map V.int))) else none
    have at1 : G a = some (.frz { cls := .type "list", data := .seq us.toArray } (.lst (ns.map V.int))) := if_pos rfl
    have el : ∀ b, b ≠ a → G b = none := fun b n => if_neg n
    have only : Only G := by
      intro b
      by_cases h : b = a
      · rw [h]
        exact .inr ⟨_, _, at1⟩
      · exact .inl (el b h)
    refine call_from (G := G) KZ hns hbn hbb lim hgn obj room F bind only (goal G only (.inl (.inr ⟨_, at1⟩))) ?_ ?_ fun _ => inK
    · intro b u n
      by_cases h : b = a
      · rw [h, at1] at n
        rw [← Option.some.inj n, h]
        exact ⟨obj, by rw [List.length_map]; exact small, us, _, rv, obj⟩
      · rw [el b h] at n
        cases n
    · intro b n
      by_cases h : b = a
      · exact h
      · exact absurd (el b h) n
end
/-- the head's last goal, from the law's promise -/
theorem walkG {l : PySem.W.OpenLaw} {n lv : Nat} {q : Program} {loose : List Str} {XP : (Str → Option Value) → Heap → Prop} {YP : World → Heap → Prop} {d : DefRec} {x : Str} (most : l.most = some n) (small : n ≤ sizeLine) (nodef : d.params.defaults = []) (room : Room lv callerA)
    (F : ∀ (w : World) (mg : Str → Option Value) (fa : Addr) (h : Heap), YP w h → h.Ns mainGlobals mg → mg d.name = some (.ref fa) → ∃ (K : PySem.W.Frag) (fd : FuncData) (sp : Sp), K.In h ∧ (∀ (t : Shared) (u : Value), BindsTo t fd ⟨[u], []⟩ [(x, u)]) ∧
      (∀ (G : Hp) (a : Addr) (ns : List Int), ns.length ≤ n → Only G → SqL K G a (ns.map V.int) → sp [.ref a] G (fun v _ => v = .bl true) fun _ _ _ => False) ∧ ∀ base : Heap, K.In base → base.Ns mainGlobals mg → FnG l.prog w K mg base lv fa fd [x] sp) :
    PySem.W.WalkO q loose XP YP l.row.toRowW d [] (fun f vs => PySem.call f vs) := by
  refine Att.attach_call most nodef ?_
  intro w z0 z mg mb fa o pm cd doc a us ns G Y ho hd hcd hmg obj isn len gens
  obtain ⟨K, fd, sp, KZ, bind, goal, hF⟩ := F w mg fa _ Y G.T.g hmg
  exact call_goes KZ G.T.g G.T.b G.T.builtins G.T.nolimit gens obj isn (Nat.le_trans len small) room hF bind fun G' h1 h2 => goal G' a ns len h1 h2
end PD

namespace PD
open PySem PySem.Spec PyProof.Rows L2
/-! ### data: lists of ints, rows -/
def dI (ns : List Int) : PyData := .list (ns.map .int)
section
variable {K : PySem.W.Frag} {H : Hp}
theorem dpa_ints : ∀ ns : List Int, DpAll K H (ns.map V.int) (ns.map PyData.int)
  | [] => .nil
  | n :: ns => .cons (.int n) (dpa_ints ns)
theorem dp_ints {a : Addr} {ns : List Int} (h : LsAt H a ns) : Dp K H (.ref a) (dI ns) := .lst (SqL.of h) (dpa_ints ns)
theorem lay_ints : ∀ ns : List Int, PyData.canLayAll0 (ns.map PyData.int) = true
  | [] => rfl
  | n :: ns => by
    rw [List.map_cons]
    simp only [PyData.canLayAll0, PyData.canLay0, Bool.true_and]
    exact lay_ints ns
theorem depth_ints : ∀ ns : List Int, PyData.depthAll (ns.map PyData.int) = 0
  | [] => rfl
  | n :: ns => by
    rw [List.map_cons]
    simp only [PyData.depthAll, PyData.depth, depth_ints ns, Nat.max_self]
theorem shaped_ints (ns : List Int) : SeqAt.shaped (dI ns) = true := by
  unfold SeqAt.shaped dI
  simp only [PyData.canLay0, PyData.depth, lay_ints, depth_ints]
  rfl
theorem eqva_ints : ∀ ns ms : List Int, PyData.eqvAll (ns.map PyData.int) (ms.map PyData.int) = decide (ns = ms)
  | [], [] => rfl
  | [], m :: ms => rfl
  | n :: ns, [] => rfl
  | n :: ns, m :: ms => by
    rw [List.map_cons, List.map_cons]
    simp only [PyData.eqvAll, PyData.eqv, eqva_ints ns ms]
    by_cases h1 : n = m
    · by_cases h2 : ns = ms
      · simp [h1, h2]
      · simp [h1, h2]
    · simp [h1]
theorem eqv_ints (ns ms : List Int) : PyData.eqv (dI ns) (dI ms) = decide (ns = ms) := by
  unfold dI
  simp only [PyData.eqv, eqva_ints]
def dO : Option Int → PyData
  | none => .none
  | some i => .int i
def dC : Cell → PyData
  | none => .none
  | some (a, b) => .tuple [.int a, dO b]
theorem dp_o : ∀ b : Option Int, Dp K H (oV b) (dO b)
  | none => .non
  | some i => .int i
theorem dp_cell {v : V} : ∀ {c : Cell}, CellV H v c → Dp K H v (dC c)
  | none, h => by
    cases (show v = .non from h)
    exact .non
  | some (a, b), ⟨p, e, h⟩ => by
    subst e
    exact .tup (SqT.of h) (.cons (.int a) (.cons (dp_o b) .nil))
theorem dpa_cells : ∀ {vs : List V} {row : List Cell}, Cells H vs row → DpAll K H vs (row.map dC)
  | [], [], _ => .nil
  | [], _ :: _, h => by
    have := h.len
    simp at this
  | _ :: _, [], h => by
    have := h.len
    simp at this
  | v :: vs, c :: row, h => by
    obtain ⟨u, e1, e2⟩ := h.each 0 c rfl
    cases (Option.some.inj e1)
    have h' : Cells H vs row := ⟨by have := h.len; simpa using this, fun i d e => h.each (i + 1) d e⟩
    exact .cons (dp_cell e2) (dpa_cells h')
def dRow (row : List Cell) : PyData := .list (row.map dC)
theorem dp_row {p : Addr} {row : List Cell} (h : RowAt H p row) : Dp K H (.ref p) (dRow row) := by
  obtain ⟨vs, h1, h2⟩ := h
  exact .lst (SqL.of h1) (dpa_cells h2)
theorem lay_cell : ∀ c : Cell, (dC c).canLay0 = true
  | none => rfl
  | some (a, none) => rfl
  | some (a, some b) => rfl
theorem lay_cells : ∀ row : List Cell, PyData.canLayAll0 (row.map dC) = true
  | [] => rfl
  | c :: row => by
    rw [List.map_cons]
    simp only [PyData.canLayAll0, lay_cell c, Bool.true_and]
    exact lay_cells row
theorem depth_cell : ∀ c : Cell, (dC c).depth ≤ 1
  | none => by decide
  | some (a, none) => by simp [dC, dO, PyData.depth, PyData.depthAll]
  | some (a, some b) => by simp [dC, dO, PyData.depth, PyData.depthAll]
theorem depth_cells : ∀ row : List Cell, PyData.depthAll (row.map dC) ≤ 1
  | [] => by simp [PyData.depthAll]
  | c :: row => by
    rw [List.map_cons]
    simp only [PyData.depthAll]
    have := depth_cell c
    have := depth_cells row
    omega
end
/-! ### digits -/
def isDig (c : Nat) : Bool := decide (48 ≤ c) && decide (c ≤ 57)
theorem str_digit : ∀ n : Int, 0 ≤ n → n ≤ 9 → (Str.ofString (toString n)).cps.toList = [48 + n.toNat] := by
  intro n h0 h9
  have h : n = 0 ∨ n = 1 ∨ n = 2 ∨ n = 3 ∨ n = 4 ∨ n = 5 ∨ n = 6 ∨ n = 7 ∨ n = 8 ∨ n = 9 := by omega
  rcases h with rfl | rfl | rfl | rfl | rfl | rfl | rfl | rfl | rfl | rfl <;> decide +kernel
theorem shownAll_map : ∀ ns : List Int, PyData.shownAll (ns.map PyData.int) = ns.map fun n => Str.ofString (toString n)
  | [] => rfl
  | n :: ns => by
    rw [List.map_cons, List.map_cons]
    simp only [PyData.shownAll, PyData.shown, shownAll_map ns]
theorem text_digits : ∀ (ns : List Int) (k : Nat) (acc : Str), (∀ n ∈ ns, 0 ≤ n ∧ n ≤ 9) →
    ((textFrom k acc (ns.map fun n => Str.ofString (toString n))).cps.toList).filter isDig = (acc.cps.toList).filter isDig ++ ns.map fun n => 48 + n.toNat
  | [], k, acc, _ => by simp [textFrom]
  | n :: ns, k, acc, h => by
    rw [List.map_cons, List.map_cons]
    show ((textFrom (k + 1) (acc ++ (if k > 0 then ", " else "" : String) ++ Str.ofString (toString n)) (ns.map fun n => Str.ofString (toString n))).cps.toList).filter isDig = _
    rw [text_digits ns _ _ fun m hm => h m (List.mem_cons_of_mem _ hm)]
    obtain ⟨h0, h9⟩ := h n List.mem_cons_self
    have e1 : (Str.ofString (toString n)).cps.toList = [48 + n.toNat] := str_digit n h0 h9
    have e2 : (((if k > 0 then ", " else "" : String) : Str)).cps.toList.filter isDig = [] := by
      split <;> decide +kernel
    have e3 : isDig (48 + n.toNat) = true := by
      unfold isDig
      rw [decide_eq_true (by omega), decide_eq_true (by omega)]
      rfl
    rw [Str.cps_append, Str.cps_append, Array.toList_append, Array.toList_append, List.filter_append, List.filter_append, e1, e2]
    simp [e3]
theorem shown_digits {ns : List Int} (h : ∀ n ∈ ns, 0 ≤ n ∧ n ≤ 9) : ((dI ns).shown.cps.toList).filter isDig = ns.map fun n => 48 + n.toNat := by
  have e : (dI ns).shown = textFrom 0 "[" (ns.map fun n => Str.ofString (toString n)) ++ "]" := by
    unfold dI
    simp only [PyData.shown, shownAll_map]
    rfl
  have e2 : ((("]" : String) : Str)).cps.toList.filter isDig = [] := by decide +kernel
  have e3 : ((("[" : String) : Str)).cps.toList.filter isDig = [] := by decide +kernel
  rw [e, Str.cps_append, Array.toList_append, List.filter_append, text_digits ns 0 _ h, e2, e3]
  simp
theorem map_inj : ∀ {ns ms : List Int}, (∀ n ∈ ns, 0 ≤ n ∧ n ≤ 9) → (∀ n ∈ ms, 0 ≤ n ∧ n ≤ 9) → (ns.map fun n => 48 + n.toNat) = (ms.map fun n => 48 + n.toNat) → ns = ms
  | [], [], _, _, _ => rfl
  | [], _ :: _, _, _, e => by simp at e
  | _ :: _, [], _, _, e => by simp at e
  | n :: ns, m :: ms, h1, h2, e => by
    rw [List.map_cons, List.map_cons] at e
    injection e with e1 e2
    have a := h1 n List.mem_cons_self
    have b := h2 m List.mem_cons_self
    have r := map_inj (fun x hx => h1 x (List.mem_cons_of_mem _ hx)) (fun x hx => h2 x (List.mem_cons_of_mem _ hx)) e2
    have : n = m := by omega
    rw [this, r]
theorem shown_inj {ns ms : List Int} (h1 : ∀ n ∈ ns, 0 ≤ n ∧ n ≤ 9) (h2 : ∀ n ∈ ms, 0 ≤ n ∧ n ≤ 9) : decide ((dI ns).shown = (dI ms).shown) = decide (ns = ms) := by
  by_cases h : ns = ms
  · rw [h, decide_eq_true rfl, decide_eq_true rfl]
  · have h3 : ¬ (dI ns).shown = (dI ms).shown := fun e => h (map_inj h1 h2 (by rw [← shown_digits h1, ← shown_digits h2, e]))
    rw [decide_eq_false h, decide_eq_false h3]
theorem text_len : ∀ (ns : List Int) (k : Nat) (acc : Str), (∀ n ∈ ns, 0 ≤ n ∧ n ≤ 9) → (textFrom k acc (ns.map fun n => Str.ofString (toString n))).length ≤ acc.length + 3 * ns.length
  | [], k, acc, _ => by simp [textFrom]
  | n :: ns, k, acc, h => by
    rw [List.map_cons]
    show (textFrom (k + 1) (acc ++ (if k > 0 then ", " else "" : String) ++ Str.ofString (toString n)) (ns.map fun n => Str.ofString (toString n))).length ≤ _
    have i := text_len ns (k + 1) (acc ++ (if k > 0 then ", " else "" : String) ++ Str.ofString (toString n)) fun m hm => h m (List.mem_cons_of_mem _ hm)
    obtain ⟨h0, h9⟩ := h n List.mem_cons_self
    have e1 : (Str.ofString (toString n)).length = 1 := by
      show (Str.ofString (toString n)).cps.size = 1
      rw [← Array.length_toList, str_digit n h0 h9]
      rfl
    have e2 : (((if k > 0 then ", " else "" : String) : Str)).length ≤ 2 := by
      split <;> decide +kernel
    rw [strLen_append, strLen_append, e1] at i
    rw [List.length_cons]
    omega
theorem shown_len {ns : List Int} (h : ∀ n ∈ ns, 0 ≤ n ∧ n ≤ 9) (hl : ns.length ≤ 1000) : (dI ns).shown.length ≤ sizeLine := by
  have e : (dI ns).shown = textFrom 0 "[" (ns.map fun n => Str.ofString (toString n)) ++ "]" := by
    unfold dI
    simp only [PyData.shown, shownAll_map]
    rfl
  have e1 := text_len ns 0 "[" h
  have e2 : ((("[" : String) : Str)).length = 1 := rfl
  have e3 : ((("]" : String) : Str)).length = 1 := rfl
  rw [e, strLen_append]
  have : (3002 : Nat) ≤ sizeLine := by decide
  omega
theorem show_ints : ∀ {ns : List Int}, (∀ n ∈ ns, 0 ≤ n ∧ n ≤ 9) → PyData.showableAll (ns.map PyData.int) = true
  | [], _ => rfl
  | n :: ns, h => by
    rw [List.map_cons]
    obtain ⟨h0, h9⟩ := h n List.mem_cons_self
    have e : n.natAbs.log2 < 1920 := by
      have h1 : n.natAbs < 2 ^ 4 := by omega
      have := PySem.Flt.log2_lt_of (by decide : 0 < 4) h1
      omega
    simp only [PyData.showableAll, PyData.showable, decide_eq_true e, Bool.true_and]
    exact show_ints fun m hm => h m (List.mem_cons_of_mem _ hm)
theorem nodict_ints (ns : List Int) : (dI ns).hasDict = false := PyData.hasDict_of_canLay _ (by unfold dI; simp only [PyData.canLay0, lay_ints])
end PD

namespace PD
open PySem PySem.Spec PyProof.Rows L2
def top (i : Nat) : Stmt := PySem.Challenge.pw_phrasedesk_k04_whole_told.main.body.getD i (.Pass ⟨0, 0, 0, 0⟩)
abbrev s_wall : Stmt := top 0
abbrev s_is_number : Stmt := top 7
abbrev s_is_count : Stmt := top 8
abbrev s_is_number_or_none : Stmt := top 9
abbrev s_is_pair : Stmt := top 10
abbrev s_is_text : Stmt := top 11
abbrev s_is_froms : Stmt := top 12
abbrev s_is_tongue : Stmt := top 13
abbrev s_is_row : Stmt := top 14
abbrev s_is_source_cell : Stmt := top 15
abbrev s_is_other_cell : Stmt := top 16
abbrev s_copied : Stmt := top 17
abbrev s_put_from : Stmt := top 18
abbrev s_is_broken : Stmt := top 19
abbrev s_chain_up : Stmt := top 20
abbrev s_one_above : Stmt := top 21
abbrev s_depth_of : Stmt := top 22
abbrev s_rounds_needed : Stmt := top 23
abbrev s_round_of_each : Stmt := top 24
abbrev s_is_put_anew : Stmt := top 25
abbrev s_Past_init : Stmt := inClass (top 26) 0
abbrev s_Past_begin_phrase : Stmt := inClass (top 26) 1
abbrev s_Past_lay_down : Stmt := inClass (top 26) 2
abbrev s_Past_take_off : Stmt := inClass (top 26) 3
abbrev s_Past_has_phrase : Stmt := inClass (top 26) 4
abbrev s_Past_standing : Stmt := inClass (top 26) 5
abbrev s_Past_text_standing : Stmt := inClass (top 26) 6
abbrev s_Past_cells : Stmt := inClass (top 26) 7
abbrev s_Past_was_seen : Stmt := inClass (top 26) 8
abbrev s_Past_is_over : Stmt := inClass (top 26) 9
abbrev s_Past_can_take_off : Stmt := inClass (top 26) 10
abbrev s_Past_takes : Stmt := inClass (top 26) 11
abbrev s_Past_takes_phrase : Stmt := inClass (top 26) 12
abbrev s_Past_takes_put : Stmt := inClass (top 26) 13
abbrev s_Past_takes_back : Stmt := inClass (top 26) 14
abbrev s_first_wrong_line : Stmt := top 27
abbrev s_Fresh_shows : Stmt := inClass (top 30) 0
abbrev s_Old_init : Stmt := inClass (top 31) 0
abbrev s_Old_shows : Stmt := inClass (top 31) 1
abbrev s_Rounds_init : Stmt := inClass (top 32) 0
abbrev s_Rounds_shows : Stmt := inClass (top 32) 1
abbrev s_Right_shows : Stmt := inClass (top 33) 0
abbrev s_Wrong_init : Stmt := inClass (top 34) 0
abbrev s_Wrong_shows : Stmt := inClass (top 34) 1
abbrev s_told : Stmt := top 41
abbrev s_law_cell_at : Stmt := top 43
abbrev s_law_draw : Stmt := top 44
abbrev s_law_number : Stmt := top 45
abbrev s_law_froms : Stmt := top 46
abbrev s_law_chain : Stmt := top 47
abbrev s_law_says : Stmt := top 48
abbrev s_law_drawn : Stmt := top 49
abbrev s_law_due : Stmt := top 50
abbrev s_law_right : Stmt := top 51
abbrev s_law_state_of : Stmt := top 52
abbrev s_law_changed_right : Stmt := top 53
abbrev s_law : Stmt := top 54
--HEAD
def d_wall : He.DefD := ⟨("_wall", none), "_wall", "_wall", defArgs s_wall, defBody s_wall, defScope s_wall, [], []⟩
def d_is_number : He.DefD := ⟨("is_number", none), "is_number", "is_number", defArgs s_is_number, defBody s_is_number, defScope s_is_number, [], []⟩
def d_is_count : He.DefD := ⟨("is_count", none), "is_count", "is_count", defArgs s_is_count, defBody s_is_count, defScope s_is_count, [], []⟩
def d_is_number_or_none : He.DefD := ⟨("is_number_or_none", none), "is_number_or_none", "is_number_or_none", defArgs s_is_number_or_none, defBody s_is_number_or_none, defScope s_is_number_or_none, [], []⟩
def d_is_pair : He.DefD := ⟨("is_pair", none), "is_pair", "is_pair", defArgs s_is_pair, defBody s_is_pair, defScope s_is_pair, [], []⟩
def d_is_text : He.DefD := ⟨("is_text", none), "is_text", "is_text", defArgs s_is_text, defBody s_is_text, defScope s_is_text, [], []⟩
def d_is_froms : He.DefD := ⟨("is_froms", none), "is_froms", "is_froms", defArgs s_is_froms, defBody s_is_froms, defScope s_is_froms, [], []⟩
def d_is_tongue : He.DefD := ⟨("is_tongue", none), "is_tongue", "is_tongue", defArgs s_is_tongue, defBody s_is_tongue, defScope s_is_tongue, [], []⟩
def d_is_row : He.DefD := ⟨("is_row", none), "is_row", "is_row", defArgs s_is_row, defBody s_is_row, defScope s_is_row, [], []⟩
def d_is_source_cell : He.DefD := ⟨("is_source_cell", none), "is_source_cell", "is_source_cell", defArgs s_is_source_cell, defBody s_is_source_cell, defScope s_is_source_cell, [], []⟩
def d_is_other_cell : He.DefD := ⟨("is_other_cell", none), "is_other_cell", "is_other_cell", defArgs s_is_other_cell, defBody s_is_other_cell, defScope s_is_other_cell, [], []⟩
def d_copied : He.DefD := ⟨("copied", none), "copied", "copied", defArgs s_copied, defBody s_copied, defScope s_copied, [], []⟩
def d_put_from : He.DefD := ⟨("put_from", none), "put_from", "put_from", defArgs s_put_from, defBody s_put_from, defScope s_put_from, [], []⟩
def d_is_broken : He.DefD := ⟨("is_broken", none), "is_broken", "is_broken", defArgs s_is_broken, defBody s_is_broken, defScope s_is_broken, [], []⟩
def d_chain_up : He.DefD := ⟨("chain_up", none), "chain_up", "chain_up", defArgs s_chain_up, defBody s_chain_up, defScope s_chain_up, [], []⟩
def d_one_above : He.DefD := ⟨("one_above", none), "one_above", "one_above", defArgs s_one_above, defBody s_one_above, defScope s_one_above, [], []⟩
def d_depth_of : He.DefD := ⟨("depth_of", none), "depth_of", "depth_of", defArgs s_depth_of, defBody s_depth_of, defScope s_depth_of, [], []⟩
def d_rounds_needed : He.DefD := ⟨("rounds_needed", none), "rounds_needed", "rounds_needed", defArgs s_rounds_needed, defBody s_rounds_needed, defScope s_rounds_needed, [], []⟩
def d_round_of_each : He.DefD := ⟨("round_of_each", none), "round_of_each", "round_of_each", defArgs s_round_of_each, defBody s_round_of_each, defScope s_round_of_each, [], []⟩
def d_is_put_anew : He.DefD := ⟨("is_put_anew", none), "is_put_anew", "is_put_anew", defArgs s_is_put_anew, defBody s_is_put_anew, defScope s_is_put_anew, [], []⟩
def d_Past_init : He.DefD := ⟨("Past", some "__init__"), "__init__", "Past.__init__", defArgs s_Past_init, defBody s_Past_init, defScope s_Past_init, [], []⟩
def d_Past_begin_phrase : He.DefD := ⟨("Past", some "begin_phrase"), "begin_phrase", "Past.begin_phrase", defArgs s_Past_begin_phrase, defBody s_Past_begin_phrase, defScope s_Past_begin_phrase, [], []⟩
def d_Past_lay_down : He.DefD := ⟨("Past", some "lay_down"), "lay_down", "Past.lay_down", defArgs s_Past_lay_down, defBody s_Past_lay_down, defScope s_Past_lay_down, [], []⟩
def d_Past_take_off : He.DefD := ⟨("Past", some "take_off"), "take_off", "Past.take_off", defArgs s_Past_take_off, defBody s_Past_take_off, defScope s_Past_take_off, [], []⟩
def d_Past_has_phrase : He.DefD := ⟨("Past", some "has_phrase"), "has_phrase", "Past.has_phrase", defArgs s_Past_has_phrase, defBody s_Past_has_phrase, defScope s_Past_has_phrase, [], []⟩
def d_Past_standing : He.DefD := ⟨("Past", some "standing"), "standing", "Past.standing", defArgs s_Past_standing, defBody s_Past_standing, defScope s_Past_standing, [], []⟩
def d_Past_text_standing : He.DefD := ⟨("Past", some "text_standing"), "text_standing", "Past.text_standing", defArgs s_Past_text_standing, defBody s_Past_text_standing, defScope s_Past_text_standing, [], []⟩
def d_Past_cells : He.DefD := ⟨("Past", some "cells"), "cells", "Past.cells", defArgs s_Past_cells, defBody s_Past_cells, defScope s_Past_cells, [], []⟩
def d_Past_was_seen : He.DefD := ⟨("Past", some "was_seen"), "was_seen", "Past.was_seen", defArgs s_Past_was_seen, defBody s_Past_was_seen, defScope s_Past_was_seen, [], []⟩
def d_Past_is_over : He.DefD := ⟨("Past", some "is_over"), "is_over", "Past.is_over", defArgs s_Past_is_over, defBody s_Past_is_over, defScope s_Past_is_over, [], []⟩
def d_Past_can_take_off : He.DefD := ⟨("Past", some "can_take_off"), "can_take_off", "Past.can_take_off", defArgs s_Past_can_take_off, defBody s_Past_can_take_off, defScope s_Past_can_take_off, [], []⟩
def d_Past_takes : He.DefD := ⟨("Past", some "takes"), "takes", "Past.takes", defArgs s_Past_takes, defBody s_Past_takes, defScope s_Past_takes, [], []⟩
def d_Past_takes_phrase : He.DefD := ⟨("Past", some "takes_phrase"), "takes_phrase", "Past.takes_phrase", defArgs s_Past_takes_phrase, defBody s_Past_takes_phrase, defScope s_Past_takes_phrase, [], []⟩
def d_Past_takes_put : He.DefD := ⟨("Past", some "takes_put"), "takes_put", "Past.takes_put", defArgs s_Past_takes_put, defBody s_Past_takes_put, defScope s_Past_takes_put, [], []⟩
def d_Past_takes_back : He.DefD := ⟨("Past", some "takes_back"), "takes_back", "Past.takes_back", defArgs s_Past_takes_back, defBody s_Past_takes_back, defScope s_Past_takes_back, [], []⟩
def d_first_wrong_line : He.DefD := ⟨("first_wrong_line", none), "first_wrong_line", "first_wrong_line", defArgs s_first_wrong_line, defBody s_first_wrong_line, defScope s_first_wrong_line, [], []⟩
def d_Fresh_shows : He.DefD := ⟨("Fresh", some "shows"), "shows", "Fresh.shows", defArgs s_Fresh_shows, defBody s_Fresh_shows, defScope s_Fresh_shows, [], []⟩
def d_Old_init : He.DefD := ⟨("Old", some "__init__"), "__init__", "Old.__init__", defArgs s_Old_init, defBody s_Old_init, defScope s_Old_init, [], []⟩
def d_Old_shows : He.DefD := ⟨("Old", some "shows"), "shows", "Old.shows", defArgs s_Old_shows, defBody s_Old_shows, defScope s_Old_shows, [], []⟩
def d_Rounds_init : He.DefD := ⟨("Rounds", some "__init__"), "__init__", "Rounds.__init__", defArgs s_Rounds_init, defBody s_Rounds_init, defScope s_Rounds_init, [], []⟩
def d_Rounds_shows : He.DefD := ⟨("Rounds", some "shows"), "shows", "Rounds.shows", defArgs s_Rounds_shows, defBody s_Rounds_shows, defScope s_Rounds_shows, [], []⟩
def d_Right_shows : He.DefD := ⟨("Right", some "shows"), "shows", "Right.shows", defArgs s_Right_shows, defBody s_Right_shows, defScope s_Right_shows, [], []⟩
def d_Wrong_init : He.DefD := ⟨("Wrong", some "__init__"), "__init__", "Wrong.__init__", defArgs s_Wrong_init, defBody s_Wrong_init, defScope s_Wrong_init, [], []⟩
def d_Wrong_shows : He.DefD := ⟨("Wrong", some "shows"), "shows", "Wrong.shows", defArgs s_Wrong_shows, defBody s_Wrong_shows, defScope s_Wrong_shows, [], []⟩
def d_told : He.DefD := ⟨("told", none), "told", "told", defArgs s_told, defBody s_told, defScope s_told, [], []⟩
def d_law_cell_at : He.DefD := ⟨("_law_cell_at", none), "_law_cell_at", "_law_cell_at", defArgs s_law_cell_at, defBody s_law_cell_at, defScope s_law_cell_at, [], []⟩
def d_law_draw : He.DefD := ⟨("_law_draw", none), "_law_draw", "_law_draw", defArgs s_law_draw, defBody s_law_draw, defScope s_law_draw, [], []⟩
def d_law_number : He.DefD := ⟨("_law_number", none), "_law_number", "_law_number", defArgs s_law_number, defBody s_law_number, defScope s_law_number, [], []⟩
def d_law_froms : He.DefD := ⟨("_law_froms", none), "_law_froms", "_law_froms", defArgs s_law_froms, defBody s_law_froms, defScope s_law_froms, [], []⟩
def d_law_chain : He.DefD := ⟨("_law_chain", none), "_law_chain", "_law_chain", defArgs s_law_chain, defBody s_law_chain, defScope s_law_chain, [], []⟩
def d_law_says : He.DefD := ⟨("_law_says", none), "_law_says", "_law_says", defArgs s_law_says, defBody s_law_says, defScope s_law_says, [], []⟩
def d_law_drawn : He.DefD := ⟨("_law_drawn", none), "_law_drawn", "_law_drawn", defArgs s_law_drawn, defBody s_law_drawn, defScope s_law_drawn, [], []⟩
def d_law_due : He.DefD := ⟨("_law_due", none), "_law_due", "_law_due", defArgs s_law_due, defBody s_law_due, defScope s_law_due, [], []⟩
def d_law_right : He.DefD := ⟨("_law_right", none), "_law_right", "_law_right", defArgs s_law_right, defBody s_law_right, defScope s_law_right, [], []⟩
def d_law_state_of : He.DefD := ⟨("_law_state_of", none), "_law_state_of", "_law_state_of", defArgs s_law_state_of, defBody s_law_state_of, defScope s_law_state_of, [], []⟩
def d_law_changed_right : He.DefD := ⟨("_law_changed_right", none), "_law_changed_right", "_law_changed_right", defArgs s_law_changed_right, defBody s_law_changed_right, defScope s_law_changed_right, [], []⟩
def d_law : He.DefD := ⟨("law", none), "law", "law", defArgs s_law, defBody s_law, defScope s_law, [], []⟩
def fn : List He.DefD := [d_wall, d_is_number, d_is_count, d_is_number_or_none, d_is_pair, d_is_text, d_is_froms, d_is_tongue, d_is_row, d_is_source_cell, d_is_other_cell, d_copied, d_put_from, d_is_broken, d_chain_up, d_one_above, d_depth_of, d_rounds_needed, d_round_of_each, d_is_put_anew, d_Past_init, d_Past_begin_phrase, d_Past_lay_down, d_Past_take_off, d_Past_has_phrase, d_Past_standing, d_Past_text_standing, d_Past_cells, d_Past_was_seen, d_Past_is_over, d_Past_can_take_off, d_Past_takes, d_Past_takes_phrase, d_Past_takes_put, d_Past_takes_back, d_first_wrong_line, d_Fresh_shows, d_Old_init, d_Old_shows, d_Rounds_init, d_Rounds_shows, d_Right_shows, d_Wrong_init, d_Wrong_shows, d_told, d_law_cell_at, d_law_draw, d_law_number, d_law_froms, d_law_chain, d_law_says, d_law_drawn, d_law_due, d_law_right, d_law_state_of, d_law_changed_right, d_law]
def fa0 : List He.Fa := [.glo "_wall", .glo "is_number", .glo "is_count", .glo "is_number_or_none", .glo "is_pair", .glo "is_text", .glo "is_froms", .glo "is_tongue", .glo "is_row", .glo "is_source_cell", .glo "is_other_cell", .glo "copied", .glo "put_from", .glo "is_broken", .glo "chain_up", .glo "one_above", .glo "depth_of", .glo "rounds_needed", .glo "round_of_each", .glo "is_put_anew", .glo "first_wrong_line", .glo "told", .glo "_law_cell_at", .glo "_law_draw", .glo "_law_number", .glo "_law_froms", .glo "_law_chain", .glo "_law_says", .glo "_law_drawn", .glo "_law_due"]
def fa1 : List He.Fa := [.glo "_law_right", .glo "_law_state_of", .glo "_law_changed_right", .glo "law", .int "FEWEST_TONGUES" 2, .int "MOST_TONGUES" 8, .int "MOST_PHRASES" 6, .int "MOST_LETTERS" 6, .str "LETTERS" "abcdefghijklmnopqrstuvwxyz", .free "all", .free "bool", .free "enumerate", .free "int", .free "isinstance", .free "len", .free "list", .free "range", .free "str", .free "tuple", .glo "Past", .cls "Past", .meth "Past" "begin_phrase", .meth "Past" "lay_down", .meth "Past" "take_off", .meth "Past" "has_phrase", .meth "Past" "standing", .meth "Past" "text_standing", .meth "Past" "cells", .meth "Past" "was_seen", .meth "Past" "is_over"]
def fa2 : List He.Fa := [.meth "Past" "can_take_off", .meth "Past" "takes", .meth "Past" "takes_phrase", .meth "Past" "takes_put", .meth "Past" "takes_back", .mkr "Past", .glo "Answer", .cls "Answer", .glo "Fresh", .cls "Fresh", .meth "Fresh" "shows", .glo "Old", .cls "Old", .meth "Old" "shows", .mkr "Old", .glo "Rounds", .cls "Rounds", .meth "Rounds" "shows", .mkr "Rounds", .glo "Right", .cls "Right", .meth "Right" "shows", .glo "Wrong", .cls "Wrong", .meth "Wrong" "shows", .mkr "Wrong", .noat "Past" "ever", .noat "Past" "froms", .noat "Past" "origins", .noat "Past" "phrases"]
def fa3 : List He.Fa := [.noat "Past" "piles", .noat "Past" "texts", .noat "Old" "chain", .noat "Rounds" "depth", .noat "Rounds" "rows", .noat "Wrong" "line", .glo "PhraseError", .exc "PhraseError", .glo "BadFroms", .exc "BadFroms", .glo "BadTongue", .exc "BadTongue", .glo "BadRow", .exc "BadRow"]
def fa : List He.Fa := fa0 ++ fa1 ++ fa2 ++ fa3
def insB (K : PySem.W.Frag) (x : Str) : Bool := He.eqO (PySem.W.findIn K (.ref (He.ga K x)) "__class__") (some (some (.builtin "object.__class__"))) && (decide (PySem.W.mroIn K (He.ga K x) (.type "object") = some true) && (He.eqO (PySem.W.specialIn K (.builtin "object.__class__") "__get__") (some (some (.builtin "getset_descriptor.__get__"))) && decide (PySem.W.takesIn K (.builtin "object.__class__") = some true)))
def isB (K : PySem.W.Frag) (x y : Str) (b : Bool) : Bool := decide (PySem.W.kitOne K (.ref (He.ga K x)) (.ref (He.ga K y)) = some b)
def bareB (K : PySem.W.Frag) (x : Str) : Bool := PySem.W.makesIn K (He.ga K x) && (He.eqO (PySem.W.findIn K (.ref (He.ga K x)) "__init__") (some (some (.builtin "object.__init__"))) && PySem.W.keepIn K (.ref (He.ga K x)))
def exs (K : PySem.W.Frag) : List Bool := [insB K "Past", isB K "Past" "Past" true, isB K "Past" "Answer" false, isB K "Past" "Fresh" false, isB K "Past" "Old" false, isB K "Past" "Rounds" false, isB K "Past" "Right" false, isB K "Past" "Wrong" false, insB K "Answer", bareB K "Answer", isB K "Answer" "Past" false, isB K "Answer" "Answer" true, isB K "Answer" "Fresh" false, isB K "Answer" "Old" false, isB K "Answer" "Rounds" false, isB K "Answer" "Right" false, isB K "Answer" "Wrong" false, insB K "Fresh", bareB K "Fresh", isB K "Fresh" "Past" false, isB K "Fresh" "Answer" true, isB K "Fresh" "Fresh" true, isB K "Fresh" "Old" false, isB K "Fresh" "Rounds" false, isB K "Fresh" "Right" false, isB K "Fresh" "Wrong" false, insB K "Old", isB K "Old" "Past" false, isB K "Old" "Answer" true, isB K "Old" "Fresh" false, isB K "Old" "Old" true, isB K "Old" "Rounds" false, isB K "Old" "Right" false, isB K "Old" "Wrong" false, insB K "Rounds", isB K "Rounds" "Past" false, isB K "Rounds" "Answer" true, isB K "Rounds" "Fresh" false, isB K "Rounds" "Old" false, isB K "Rounds" "Rounds" true, isB K "Rounds" "Right" false, isB K "Rounds" "Wrong" false, insB K "Right", bareB K "Right", isB K "Right" "Past" false, isB K "Right" "Answer" true, isB K "Right" "Fresh" false, isB K "Right" "Old" false, isB K "Right" "Rounds" false, isB K "Right" "Right" true, isB K "Right" "Wrong" false, insB K "Wrong", isB K "Wrong" "Past" false, isB K "Wrong" "Answer" true, isB K "Wrong" "Fresh" false, isB K "Wrong" "Old" false, isB K "Wrong" "Rounds" false, isB K "Wrong" "Right" false, isB K "Wrong" "Wrong" true]
def ex (K : PySem.W.Frag) : Bool := (exs K).all id
abbrev R : PySem.W.OpenRow := PySem.W.OpenLaw.row PySem.Challenge.rw_phrasedesk_k04_whole_told
abbrev hk : PySem.W.Hook := He.hookX 5 fa fn [] [] ex
def ob (s : PySem.W.SharedT) : He.AlX := He.obsX 5 fa fn [] [] ex (HandSHeadRun.getT s)
theorem ob_eq (s : PySem.W.SharedT) : ob s = hk.obs s.abs := He.obsX_eq (HandSHeadRun.getT_eq s)
def loose0 : List Str := ["_wall", "FEWEST_TONGUES", "MOST_TONGUES", "MOST_PHRASES", "MOST_LETTERS", "LETTERS", "is_number", "is_count", "is_number_or_none", "is_pair", "is_text", "is_froms", "is_tongue", "is_row", "is_source_cell", "is_other_cell", "copied", "put_from", "is_broken", "chain_up", "one_above", "depth_of", "rounds_needed", "round_of_each", "is_put_anew", "Past", "first_wrong_line", "Answer", "Fresh", "Old"]
def loose1 : List Str := ["Rounds", "Right", "Wrong", "PhraseError", "BadFroms", "BadTongue", "BadRow", "told", "_law_cell_at", "_law_draw", "_law_number", "_law_froms", "_law_chain", "_law_says", "_law_drawn", "_law_due", "_law_right", "_law_state_of", "_law_changed_right"]
def loose : List Str := loose0 ++ loose1
theorem run (w : World) : HandSHeadRun.RunEq R (PySem.W.view R.prog [54]) hk ob 6000 loose w := by
  intro os
  kernel_rfl
--TX
structure Tx (K : PySem.W.Frag) (mg : Str → Option Value) : Prop where
  F_wall : ∃ fd, FunD K "_wall" "_wall" (defArgs s_wall) (defBody s_wall) (defScope s_wall) [] [] (He.ga K "_wall") fd
  g_wall : mg "_wall" = some (.ref (He.ga K "_wall"))
  F_is_number : ∃ fd, FunD K "is_number" "is_number" (defArgs s_is_number) (defBody s_is_number) (defScope s_is_number) [] [] (He.ga K "is_number") fd
  g_is_number : mg "is_number" = some (.ref (He.ga K "is_number"))
  F_is_count : ∃ fd, FunD K "is_count" "is_count" (defArgs s_is_count) (defBody s_is_count) (defScope s_is_count) [] [] (He.ga K "is_count") fd
  g_is_count : mg "is_count" = some (.ref (He.ga K "is_count"))
  F_is_number_or_none : ∃ fd, FunD K "is_number_or_none" "is_number_or_none" (defArgs s_is_number_or_none) (defBody s_is_number_or_none) (defScope s_is_number_or_none) [] [] (He.ga K "is_number_or_none") fd
  g_is_number_or_none : mg "is_number_or_none" = some (.ref (He.ga K "is_number_or_none"))
  F_is_pair : ∃ fd, FunD K "is_pair" "is_pair" (defArgs s_is_pair) (defBody s_is_pair) (defScope s_is_pair) [] [] (He.ga K "is_pair") fd
  g_is_pair : mg "is_pair" = some (.ref (He.ga K "is_pair"))
  F_is_text : ∃ fd, FunD K "is_text" "is_text" (defArgs s_is_text) (defBody s_is_text) (defScope s_is_text) [] [] (He.ga K "is_text") fd
  g_is_text : mg "is_text" = some (.ref (He.ga K "is_text"))
  F_is_froms : ∃ fd, FunD K "is_froms" "is_froms" (defArgs s_is_froms) (defBody s_is_froms) (defScope s_is_froms) [] [] (He.ga K "is_froms") fd
  g_is_froms : mg "is_froms" = some (.ref (He.ga K "is_froms"))
  F_is_tongue : ∃ fd, FunD K "is_tongue" "is_tongue" (defArgs s_is_tongue) (defBody s_is_tongue) (defScope s_is_tongue) [] [] (He.ga K "is_tongue") fd
  g_is_tongue : mg "is_tongue" = some (.ref (He.ga K "is_tongue"))
  F_is_row : ∃ fd, FunD K "is_row" "is_row" (defArgs s_is_row) (defBody s_is_row) (defScope s_is_row) [] [] (He.ga K "is_row") fd
  g_is_row : mg "is_row" = some (.ref (He.ga K "is_row"))
  F_is_source_cell : ∃ fd, FunD K "is_source_cell" "is_source_cell" (defArgs s_is_source_cell) (defBody s_is_source_cell) (defScope s_is_source_cell) [] [] (He.ga K "is_source_cell") fd
  g_is_source_cell : mg "is_source_cell" = some (.ref (He.ga K "is_source_cell"))
  F_is_other_cell : ∃ fd, FunD K "is_other_cell" "is_other_cell" (defArgs s_is_other_cell) (defBody s_is_other_cell) (defScope s_is_other_cell) [] [] (He.ga K "is_other_cell") fd
  g_is_other_cell : mg "is_other_cell" = some (.ref (He.ga K "is_other_cell"))
  F_copied : ∃ fd, FunD K "copied" "copied" (defArgs s_copied) (defBody s_copied) (defScope s_copied) [] [] (He.ga K "copied") fd
  g_copied : mg "copied" = some (.ref (He.ga K "copied"))
  F_put_from : ∃ fd, FunD K "put_from" "put_from" (defArgs s_put_from) (defBody s_put_from) (defScope s_put_from) [] [] (He.ga K "put_from") fd
  g_put_from : mg "put_from" = some (.ref (He.ga K "put_from"))
  F_is_broken : ∃ fd, FunD K "is_broken" "is_broken" (defArgs s_is_broken) (defBody s_is_broken) (defScope s_is_broken) [] [] (He.ga K "is_broken") fd
  g_is_broken : mg "is_broken" = some (.ref (He.ga K "is_broken"))
  F_chain_up : ∃ fd, FunD K "chain_up" "chain_up" (defArgs s_chain_up) (defBody s_chain_up) (defScope s_chain_up) [] [] (He.ga K "chain_up") fd
  g_chain_up : mg "chain_up" = some (.ref (He.ga K "chain_up"))
  F_one_above : ∃ fd, FunD K "one_above" "one_above" (defArgs s_one_above) (defBody s_one_above) (defScope s_one_above) [] [] (He.ga K "one_above") fd
  g_one_above : mg "one_above" = some (.ref (He.ga K "one_above"))
  F_depth_of : ∃ fd, FunD K "depth_of" "depth_of" (defArgs s_depth_of) (defBody s_depth_of) (defScope s_depth_of) [] [] (He.ga K "depth_of") fd
  g_depth_of : mg "depth_of" = some (.ref (He.ga K "depth_of"))
  F_rounds_needed : ∃ fd, FunD K "rounds_needed" "rounds_needed" (defArgs s_rounds_needed) (defBody s_rounds_needed) (defScope s_rounds_needed) [] [] (He.ga K "rounds_needed") fd
  g_rounds_needed : mg "rounds_needed" = some (.ref (He.ga K "rounds_needed"))
  F_round_of_each : ∃ fd, FunD K "round_of_each" "round_of_each" (defArgs s_round_of_each) (defBody s_round_of_each) (defScope s_round_of_each) [] [] (He.ga K "round_of_each") fd
  g_round_of_each : mg "round_of_each" = some (.ref (He.ga K "round_of_each"))
  F_is_put_anew : ∃ fd, FunD K "is_put_anew" "is_put_anew" (defArgs s_is_put_anew) (defBody s_is_put_anew) (defScope s_is_put_anew) [] [] (He.ga K "is_put_anew") fd
  g_is_put_anew : mg "is_put_anew" = some (.ref (He.ga K "is_put_anew"))
  F_Past_init : ∃ fd, FunD K "__init__" "Past.__init__" (defArgs s_Past_init) (defBody s_Past_init) (defScope s_Past_init) [] [] (He.ma K (He.ga K "Past") "__init__") fd
  F_Past_begin_phrase : ∃ fd, FunD K "begin_phrase" "Past.begin_phrase" (defArgs s_Past_begin_phrase) (defBody s_Past_begin_phrase) (defScope s_Past_begin_phrase) [] [] (He.ma K (He.ga K "Past") "begin_phrase") fd
  F_Past_lay_down : ∃ fd, FunD K "lay_down" "Past.lay_down" (defArgs s_Past_lay_down) (defBody s_Past_lay_down) (defScope s_Past_lay_down) [] [] (He.ma K (He.ga K "Past") "lay_down") fd
  F_Past_take_off : ∃ fd, FunD K "take_off" "Past.take_off" (defArgs s_Past_take_off) (defBody s_Past_take_off) (defScope s_Past_take_off) [] [] (He.ma K (He.ga K "Past") "take_off") fd
  F_Past_has_phrase : ∃ fd, FunD K "has_phrase" "Past.has_phrase" (defArgs s_Past_has_phrase) (defBody s_Past_has_phrase) (defScope s_Past_has_phrase) [] [] (He.ma K (He.ga K "Past") "has_phrase") fd
  F_Past_standing : ∃ fd, FunD K "standing" "Past.standing" (defArgs s_Past_standing) (defBody s_Past_standing) (defScope s_Past_standing) [] [] (He.ma K (He.ga K "Past") "standing") fd
  F_Past_text_standing : ∃ fd, FunD K "text_standing" "Past.text_standing" (defArgs s_Past_text_standing) (defBody s_Past_text_standing) (defScope s_Past_text_standing) [] [] (He.ma K (He.ga K "Past") "text_standing") fd
  F_Past_cells : ∃ fd, FunD K "cells" "Past.cells" (defArgs s_Past_cells) (defBody s_Past_cells) (defScope s_Past_cells) [] [] (He.ma K (He.ga K "Past") "cells") fd
  F_Past_was_seen : ∃ fd, FunD K "was_seen" "Past.was_seen" (defArgs s_Past_was_seen) (defBody s_Past_was_seen) (defScope s_Past_was_seen) [] [] (He.ma K (He.ga K "Past") "was_seen") fd
  F_Past_is_over : ∃ fd, FunD K "is_over" "Past.is_over" (defArgs s_Past_is_over) (defBody s_Past_is_over) (defScope s_Past_is_over) [] [] (He.ma K (He.ga K "Past") "is_over") fd
  F_Past_can_take_off : ∃ fd, FunD K "can_take_off" "Past.can_take_off" (defArgs s_Past_can_take_off) (defBody s_Past_can_take_off) (defScope s_Past_can_take_off) [] [] (He.ma K (He.ga K "Past") "can_take_off") fd
  F_Past_takes : ∃ fd, FunD K "takes" "Past.takes" (defArgs s_Past_takes) (defBody s_Past_takes) (defScope s_Past_takes) [] [] (He.ma K (He.ga K "Past") "takes") fd
  F_Past_takes_phrase : ∃ fd, FunD K "takes_phrase" "Past.takes_phrase" (defArgs s_Past_takes_phrase) (defBody s_Past_takes_phrase) (defScope s_Past_takes_phrase) [] [] (He.ma K (He.ga K "Past") "takes_phrase") fd
  F_Past_takes_put : ∃ fd, FunD K "takes_put" "Past.takes_put" (defArgs s_Past_takes_put) (defBody s_Past_takes_put) (defScope s_Past_takes_put) [] [] (He.ma K (He.ga K "Past") "takes_put") fd
  F_Past_takes_back : ∃ fd, FunD K "takes_back" "Past.takes_back" (defArgs s_Past_takes_back) (defBody s_Past_takes_back) (defScope s_Past_takes_back) [] [] (He.ma K (He.ga K "Past") "takes_back") fd
  F_first_wrong_line : ∃ fd, FunD K "first_wrong_line" "first_wrong_line" (defArgs s_first_wrong_line) (defBody s_first_wrong_line) (defScope s_first_wrong_line) [] [] (He.ga K "first_wrong_line") fd
  g_first_wrong_line : mg "first_wrong_line" = some (.ref (He.ga K "first_wrong_line"))
  F_Fresh_shows : ∃ fd, FunD K "shows" "Fresh.shows" (defArgs s_Fresh_shows) (defBody s_Fresh_shows) (defScope s_Fresh_shows) [] [] (He.ma K (He.ga K "Fresh") "shows") fd
  F_Old_init : ∃ fd, FunD K "__init__" "Old.__init__" (defArgs s_Old_init) (defBody s_Old_init) (defScope s_Old_init) [] [] (He.ma K (He.ga K "Old") "__init__") fd
  F_Old_shows : ∃ fd, FunD K "shows" "Old.shows" (defArgs s_Old_shows) (defBody s_Old_shows) (defScope s_Old_shows) [] [] (He.ma K (He.ga K "Old") "shows") fd
  F_Rounds_init : ∃ fd, FunD K "__init__" "Rounds.__init__" (defArgs s_Rounds_init) (defBody s_Rounds_init) (defScope s_Rounds_init) [] [] (He.ma K (He.ga K "Rounds") "__init__") fd
  F_Rounds_shows : ∃ fd, FunD K "shows" "Rounds.shows" (defArgs s_Rounds_shows) (defBody s_Rounds_shows) (defScope s_Rounds_shows) [] [] (He.ma K (He.ga K "Rounds") "shows") fd
  F_Right_shows : ∃ fd, FunD K "shows" "Right.shows" (defArgs s_Right_shows) (defBody s_Right_shows) (defScope s_Right_shows) [] [] (He.ma K (He.ga K "Right") "shows") fd
  F_Wrong_init : ∃ fd, FunD K "__init__" "Wrong.__init__" (defArgs s_Wrong_init) (defBody s_Wrong_init) (defScope s_Wrong_init) [] [] (He.ma K (He.ga K "Wrong") "__init__") fd
  F_Wrong_shows : ∃ fd, FunD K "shows" "Wrong.shows" (defArgs s_Wrong_shows) (defBody s_Wrong_shows) (defScope s_Wrong_shows) [] [] (He.ma K (He.ga K "Wrong") "shows") fd
  F_told : ∃ fd, FunD K "told" "told" (defArgs s_told) (defBody s_told) (defScope s_told) [] [] (He.ga K "told") fd
  g_told : mg "told" = some (.ref (He.ga K "told"))
  F_law_cell_at : ∃ fd, FunD K "_law_cell_at" "_law_cell_at" (defArgs s_law_cell_at) (defBody s_law_cell_at) (defScope s_law_cell_at) [] [] (He.ga K "_law_cell_at") fd
  g_law_cell_at : mg "_law_cell_at" = some (.ref (He.ga K "_law_cell_at"))
  F_law_draw : ∃ fd, FunD K "_law_draw" "_law_draw" (defArgs s_law_draw) (defBody s_law_draw) (defScope s_law_draw) [] [] (He.ga K "_law_draw") fd
  g_law_draw : mg "_law_draw" = some (.ref (He.ga K "_law_draw"))
  F_law_number : ∃ fd, FunD K "_law_number" "_law_number" (defArgs s_law_number) (defBody s_law_number) (defScope s_law_number) [] [] (He.ga K "_law_number") fd
  g_law_number : mg "_law_number" = some (.ref (He.ga K "_law_number"))
  F_law_froms : ∃ fd, FunD K "_law_froms" "_law_froms" (defArgs s_law_froms) (defBody s_law_froms) (defScope s_law_froms) [] [] (He.ga K "_law_froms") fd
  g_law_froms : mg "_law_froms" = some (.ref (He.ga K "_law_froms"))
  F_law_chain : ∃ fd, FunD K "_law_chain" "_law_chain" (defArgs s_law_chain) (defBody s_law_chain) (defScope s_law_chain) [] [] (He.ga K "_law_chain") fd
  g_law_chain : mg "_law_chain" = some (.ref (He.ga K "_law_chain"))
  F_law_says : ∃ fd, FunD K "_law_says" "_law_says" (defArgs s_law_says) (defBody s_law_says) (defScope s_law_says) [] [] (He.ga K "_law_says") fd
  g_law_says : mg "_law_says" = some (.ref (He.ga K "_law_says"))
  F_law_drawn : ∃ fd, FunD K "_law_drawn" "_law_drawn" (defArgs s_law_drawn) (defBody s_law_drawn) (defScope s_law_drawn) [] [] (He.ga K "_law_drawn") fd
  g_law_drawn : mg "_law_drawn" = some (.ref (He.ga K "_law_drawn"))
  F_law_due : ∃ fd, FunD K "_law_due" "_law_due" (defArgs s_law_due) (defBody s_law_due) (defScope s_law_due) [] [] (He.ga K "_law_due") fd
  g_law_due : mg "_law_due" = some (.ref (He.ga K "_law_due"))
  F_law_right : ∃ fd, FunD K "_law_right" "_law_right" (defArgs s_law_right) (defBody s_law_right) (defScope s_law_right) [] [] (He.ga K "_law_right") fd
  g_law_right : mg "_law_right" = some (.ref (He.ga K "_law_right"))
  F_law_state_of : ∃ fd, FunD K "_law_state_of" "_law_state_of" (defArgs s_law_state_of) (defBody s_law_state_of) (defScope s_law_state_of) [] [] (He.ga K "_law_state_of") fd
  g_law_state_of : mg "_law_state_of" = some (.ref (He.ga K "_law_state_of"))
  F_law_changed_right : ∃ fd, FunD K "_law_changed_right" "_law_changed_right" (defArgs s_law_changed_right) (defBody s_law_changed_right) (defScope s_law_changed_right) [] [] (He.ga K "_law_changed_right") fd
  g_law_changed_right : mg "_law_changed_right" = some (.ref (He.ga K "_law_changed_right"))
  F_law : ∃ fd, FunD K "law" "law" (defArgs s_law) (defBody s_law) (defScope s_law) [] [] (He.ga K "law") fd
  g_law : mg "law" = some (.ref (He.ga K "law"))
  g_FEWEST_TONGUES : ∃ t, mg "FEWEST_TONGUES" = some (.int 2 t)
  g_MOST_TONGUES : ∃ t, mg "MOST_TONGUES" = some (.int 8 t)
  g_MOST_PHRASES : ∃ t, mg "MOST_PHRASES" = some (.int 6 t)
  g_MOST_LETTERS : ∃ t, mg "MOST_LETTERS" = some (.int 6 t)
  g_LETTERS : ∃ t, mg "LETTERS" = some (.str "abcdefghijklmnopqrstuvwxyz" t)
  f_all : mg "all" = none
  f_bool : mg "bool" = none
  f_enumerate : mg "enumerate" = none
  f_int : mg "int" = none
  f_isinstance : mg "isinstance" = none
  f_len : mg "len" = none
  f_list : mg "list" = none
  f_range : mg "range" = none
  f_str : mg "str" = none
  f_tuple : mg "tuple" = none
  g_Past : mg "Past" = some (.ref (He.ga K "Past"))
  k_Past : Cls K (He.ga K "Past")
  m_Past_begin_phrase : Meth K (He.ga K "Past") "begin_phrase" (He.ma K (He.ga K "Past") "begin_phrase")
  m_Past_lay_down : Meth K (He.ga K "Past") "lay_down" (He.ma K (He.ga K "Past") "lay_down")
  m_Past_take_off : Meth K (He.ga K "Past") "take_off" (He.ma K (He.ga K "Past") "take_off")
  m_Past_has_phrase : Meth K (He.ga K "Past") "has_phrase" (He.ma K (He.ga K "Past") "has_phrase")
  m_Past_standing : Meth K (He.ga K "Past") "standing" (He.ma K (He.ga K "Past") "standing")
  m_Past_text_standing : Meth K (He.ga K "Past") "text_standing" (He.ma K (He.ga K "Past") "text_standing")
  m_Past_cells : Meth K (He.ga K "Past") "cells" (He.ma K (He.ga K "Past") "cells")
  m_Past_was_seen : Meth K (He.ga K "Past") "was_seen" (He.ma K (He.ga K "Past") "was_seen")
  m_Past_is_over : Meth K (He.ga K "Past") "is_over" (He.ma K (He.ga K "Past") "is_over")
  m_Past_can_take_off : Meth K (He.ga K "Past") "can_take_off" (He.ma K (He.ga K "Past") "can_take_off")
  m_Past_takes : Meth K (He.ga K "Past") "takes" (He.ma K (He.ga K "Past") "takes")
  m_Past_takes_phrase : Meth K (He.ga K "Past") "takes_phrase" (He.ma K (He.ga K "Past") "takes_phrase")
  m_Past_takes_put : Meth K (He.ga K "Past") "takes_put" (He.ma K (He.ga K "Past") "takes_put")
  m_Past_takes_back : Meth K (He.ga K "Past") "takes_back" (He.ma K (He.ga K "Past") "takes_back")
  i_Past : Mk K (He.ga K "Past") (He.ma K (He.ga K "Past") "__init__")
  t_Past : Ins1 K (He.ga K "Past")
  is_Past_Past : PySem.W.kitOne K (.ref (He.ga K "Past")) (.ref (He.ga K "Past")) = some true
  is_Past_Answer : PySem.W.kitOne K (.ref (He.ga K "Past")) (.ref (He.ga K "Answer")) = some false
  is_Past_Fresh : PySem.W.kitOne K (.ref (He.ga K "Past")) (.ref (He.ga K "Fresh")) = some false
  is_Past_Old : PySem.W.kitOne K (.ref (He.ga K "Past")) (.ref (He.ga K "Old")) = some false
  is_Past_Rounds : PySem.W.kitOne K (.ref (He.ga K "Past")) (.ref (He.ga K "Rounds")) = some false
  is_Past_Right : PySem.W.kitOne K (.ref (He.ga K "Past")) (.ref (He.ga K "Right")) = some false
  is_Past_Wrong : PySem.W.kitOne K (.ref (He.ga K "Past")) (.ref (He.ga K "Wrong")) = some false
  g_Answer : mg "Answer" = some (.ref (He.ga K "Answer"))
  k_Answer : Cls K (He.ga K "Answer")
  b_Answer : Bare K (He.ga K "Answer")
  t_Answer : Ins1 K (He.ga K "Answer")
  is_Answer_Past : PySem.W.kitOne K (.ref (He.ga K "Answer")) (.ref (He.ga K "Past")) = some false
  is_Answer_Answer : PySem.W.kitOne K (.ref (He.ga K "Answer")) (.ref (He.ga K "Answer")) = some true
  is_Answer_Fresh : PySem.W.kitOne K (.ref (He.ga K "Answer")) (.ref (He.ga K "Fresh")) = some false
  is_Answer_Old : PySem.W.kitOne K (.ref (He.ga K "Answer")) (.ref (He.ga K "Old")) = some false
  is_Answer_Rounds : PySem.W.kitOne K (.ref (He.ga K "Answer")) (.ref (He.ga K "Rounds")) = some false
  is_Answer_Right : PySem.W.kitOne K (.ref (He.ga K "Answer")) (.ref (He.ga K "Right")) = some false
  is_Answer_Wrong : PySem.W.kitOne K (.ref (He.ga K "Answer")) (.ref (He.ga K "Wrong")) = some false
  g_Fresh : mg "Fresh" = some (.ref (He.ga K "Fresh"))
  k_Fresh : Cls K (He.ga K "Fresh")
  m_Fresh_shows : Meth K (He.ga K "Fresh") "shows" (He.ma K (He.ga K "Fresh") "shows")
  b_Fresh : Bare K (He.ga K "Fresh")
  t_Fresh : Ins1 K (He.ga K "Fresh")
  is_Fresh_Past : PySem.W.kitOne K (.ref (He.ga K "Fresh")) (.ref (He.ga K "Past")) = some false
  is_Fresh_Answer : PySem.W.kitOne K (.ref (He.ga K "Fresh")) (.ref (He.ga K "Answer")) = some true
  is_Fresh_Fresh : PySem.W.kitOne K (.ref (He.ga K "Fresh")) (.ref (He.ga K "Fresh")) = some true
  is_Fresh_Old : PySem.W.kitOne K (.ref (He.ga K "Fresh")) (.ref (He.ga K "Old")) = some false
  is_Fresh_Rounds : PySem.W.kitOne K (.ref (He.ga K "Fresh")) (.ref (He.ga K "Rounds")) = some false
  is_Fresh_Right : PySem.W.kitOne K (.ref (He.ga K "Fresh")) (.ref (He.ga K "Right")) = some false
  is_Fresh_Wrong : PySem.W.kitOne K (.ref (He.ga K "Fresh")) (.ref (He.ga K "Wrong")) = some false
  g_Old : mg "Old" = some (.ref (He.ga K "Old"))
  k_Old : Cls K (He.ga K "Old")
  m_Old_shows : Meth K (He.ga K "Old") "shows" (He.ma K (He.ga K "Old") "shows")
  i_Old : Mk K (He.ga K "Old") (He.ma K (He.ga K "Old") "__init__")
  t_Old : Ins1 K (He.ga K "Old")
  is_Old_Past : PySem.W.kitOne K (.ref (He.ga K "Old")) (.ref (He.ga K "Past")) = some false
  is_Old_Answer : PySem.W.kitOne K (.ref (He.ga K "Old")) (.ref (He.ga K "Answer")) = some true
  is_Old_Fresh : PySem.W.kitOne K (.ref (He.ga K "Old")) (.ref (He.ga K "Fresh")) = some false
  is_Old_Old : PySem.W.kitOne K (.ref (He.ga K "Old")) (.ref (He.ga K "Old")) = some true
  is_Old_Rounds : PySem.W.kitOne K (.ref (He.ga K "Old")) (.ref (He.ga K "Rounds")) = some false
  is_Old_Right : PySem.W.kitOne K (.ref (He.ga K "Old")) (.ref (He.ga K "Right")) = some false
  is_Old_Wrong : PySem.W.kitOne K (.ref (He.ga K "Old")) (.ref (He.ga K "Wrong")) = some false
  g_Rounds : mg "Rounds" = some (.ref (He.ga K "Rounds"))
  k_Rounds : Cls K (He.ga K "Rounds")
  m_Rounds_shows : Meth K (He.ga K "Rounds") "shows" (He.ma K (He.ga K "Rounds") "shows")
  i_Rounds : Mk K (He.ga K "Rounds") (He.ma K (He.ga K "Rounds") "__init__")
  t_Rounds : Ins1 K (He.ga K "Rounds")
  is_Rounds_Past : PySem.W.kitOne K (.ref (He.ga K "Rounds")) (.ref (He.ga K "Past")) = some false
  is_Rounds_Answer : PySem.W.kitOne K (.ref (He.ga K "Rounds")) (.ref (He.ga K "Answer")) = some true
  is_Rounds_Fresh : PySem.W.kitOne K (.ref (He.ga K "Rounds")) (.ref (He.ga K "Fresh")) = some false
  is_Rounds_Old : PySem.W.kitOne K (.ref (He.ga K "Rounds")) (.ref (He.ga K "Old")) = some false
  is_Rounds_Rounds : PySem.W.kitOne K (.ref (He.ga K "Rounds")) (.ref (He.ga K "Rounds")) = some true
  is_Rounds_Right : PySem.W.kitOne K (.ref (He.ga K "Rounds")) (.ref (He.ga K "Right")) = some false
  is_Rounds_Wrong : PySem.W.kitOne K (.ref (He.ga K "Rounds")) (.ref (He.ga K "Wrong")) = some false
  g_Right : mg "Right" = some (.ref (He.ga K "Right"))
  k_Right : Cls K (He.ga K "Right")
  m_Right_shows : Meth K (He.ga K "Right") "shows" (He.ma K (He.ga K "Right") "shows")
  b_Right : Bare K (He.ga K "Right")
  t_Right : Ins1 K (He.ga K "Right")
  is_Right_Past : PySem.W.kitOne K (.ref (He.ga K "Right")) (.ref (He.ga K "Past")) = some false
  is_Right_Answer : PySem.W.kitOne K (.ref (He.ga K "Right")) (.ref (He.ga K "Answer")) = some true
  is_Right_Fresh : PySem.W.kitOne K (.ref (He.ga K "Right")) (.ref (He.ga K "Fresh")) = some false
  is_Right_Old : PySem.W.kitOne K (.ref (He.ga K "Right")) (.ref (He.ga K "Old")) = some false
  is_Right_Rounds : PySem.W.kitOne K (.ref (He.ga K "Right")) (.ref (He.ga K "Rounds")) = some false
  is_Right_Right : PySem.W.kitOne K (.ref (He.ga K "Right")) (.ref (He.ga K "Right")) = some true
  is_Right_Wrong : PySem.W.kitOne K (.ref (He.ga K "Right")) (.ref (He.ga K "Wrong")) = some false
  g_Wrong : mg "Wrong" = some (.ref (He.ga K "Wrong"))
  k_Wrong : Cls K (He.ga K "Wrong")
  m_Wrong_shows : Meth K (He.ga K "Wrong") "shows" (He.ma K (He.ga K "Wrong") "shows")
  i_Wrong : Mk K (He.ga K "Wrong") (He.ma K (He.ga K "Wrong") "__init__")
  t_Wrong : Ins1 K (He.ga K "Wrong")
  is_Wrong_Past : PySem.W.kitOne K (.ref (He.ga K "Wrong")) (.ref (He.ga K "Past")) = some false
  is_Wrong_Answer : PySem.W.kitOne K (.ref (He.ga K "Wrong")) (.ref (He.ga K "Answer")) = some true
  is_Wrong_Fresh : PySem.W.kitOne K (.ref (He.ga K "Wrong")) (.ref (He.ga K "Fresh")) = some false
  is_Wrong_Old : PySem.W.kitOne K (.ref (He.ga K "Wrong")) (.ref (He.ga K "Old")) = some false
  is_Wrong_Rounds : PySem.W.kitOne K (.ref (He.ga K "Wrong")) (.ref (He.ga K "Rounds")) = some false
  is_Wrong_Right : PySem.W.kitOne K (.ref (He.ga K "Wrong")) (.ref (He.ga K "Right")) = some false
  is_Wrong_Wrong : PySem.W.kitOne K (.ref (He.ga K "Wrong")) (.ref (He.ga K "Wrong")) = some true
  n_Past_ever : NoAttr K (He.ga K "Past") "ever"
  n_Past_froms : NoAttr K (He.ga K "Past") "froms"
  n_Past_origins : NoAttr K (He.ga K "Past") "origins"
  n_Past_phrases : NoAttr K (He.ga K "Past") "phrases"
  n_Past_piles : NoAttr K (He.ga K "Past") "piles"
  n_Past_texts : NoAttr K (He.ga K "Past") "texts"
  n_Old_chain : NoAttr K (He.ga K "Old") "chain"
  n_Rounds_depth : NoAttr K (He.ga K "Rounds") "depth"
  n_Rounds_rows : NoAttr K (He.ga K "Rounds") "rows"
  n_Wrong_line : NoAttr K (He.ga K "Wrong") "line"
  g_PhraseError : mg "PhraseError" = some (.ref (He.ga K "PhraseError"))
  g_BadFroms : mg "BadFroms" = some (.ref (He.ga K "BadFroms"))
  g_BadTongue : mg "BadTongue" = some (.ref (He.ga K "BadTongue"))
  g_BadRow : mg "BadRow" = some (.ref (He.ga K "BadRow"))
--MK
theorem exs_at {K : PySem.W.Frag} (h : ex K = true) (i : Nat) {b : Bool} (e : (exs K)[i]? = some b) : b = true := List.all_eq_true.mp h b (List.mem_of_getElem? e)
theorem ins_ok {K : PySem.W.Frag} {x : Str} (h : insB K x = true) : Ins1 K (He.ga K x) := by
  obtain ⟨h1, h⟩ := He.ba h
  obtain ⟨h2, h⟩ := He.ba h
  obtain ⟨h3, h4⟩ := He.ba h
  exact ⟨He.eqO_ok h1, He.eqO_ok h3, of_decide_eq_true h4, of_decide_eq_true h2⟩
theorem bare_ok {K : PySem.W.Frag} {x : Str} (h : bareB K x = true) : Bare K (He.ga K x) := by
  obtain ⟨h1, h⟩ := He.ba h
  obtain ⟨h2, h3⟩ := He.ba h
  exact ⟨h1, He.eqO_ok h2, h3⟩
theorem tx_mk {K : PySem.W.Frag} {h : Heap} {w : World} {mg : Str → Option Value} (X : K.In h) (G : h.Ns mainGlobals mg) (c : He.SaysX fa fn [] [] ex w h K) : Tx K mg where
  F_wall := c.t.d.def_ 0 (d := d_wall) rfl
  g_wall := He.glo_ok X G (c.t.d.fact 0 (f := .glo "_wall") rfl)
  F_is_number := c.t.d.def_ 1 (d := d_is_number) rfl
  g_is_number := He.glo_ok X G (c.t.d.fact 1 (f := .glo "is_number") rfl)
  F_is_count := c.t.d.def_ 2 (d := d_is_count) rfl
  g_is_count := He.glo_ok X G (c.t.d.fact 2 (f := .glo "is_count") rfl)
  F_is_number_or_none := c.t.d.def_ 3 (d := d_is_number_or_none) rfl
  g_is_number_or_none := He.glo_ok X G (c.t.d.fact 3 (f := .glo "is_number_or_none") rfl)
  F_is_pair := c.t.d.def_ 4 (d := d_is_pair) rfl
  g_is_pair := He.glo_ok X G (c.t.d.fact 4 (f := .glo "is_pair") rfl)
  F_is_text := c.t.d.def_ 5 (d := d_is_text) rfl
  g_is_text := He.glo_ok X G (c.t.d.fact 5 (f := .glo "is_text") rfl)
  F_is_froms := c.t.d.def_ 6 (d := d_is_froms) rfl
  g_is_froms := He.glo_ok X G (c.t.d.fact 6 (f := .glo "is_froms") rfl)
  F_is_tongue := c.t.d.def_ 7 (d := d_is_tongue) rfl
  g_is_tongue := He.glo_ok X G (c.t.d.fact 7 (f := .glo "is_tongue") rfl)
  F_is_row := c.t.d.def_ 8 (d := d_is_row) rfl
  g_is_row := He.glo_ok X G (c.t.d.fact 8 (f := .glo "is_row") rfl)
  F_is_source_cell := c.t.d.def_ 9 (d := d_is_source_cell) rfl
  g_is_source_cell := He.glo_ok X G (c.t.d.fact 9 (f := .glo "is_source_cell") rfl)
  F_is_other_cell := c.t.d.def_ 10 (d := d_is_other_cell) rfl
  g_is_other_cell := He.glo_ok X G (c.t.d.fact 10 (f := .glo "is_other_cell") rfl)
  F_copied := c.t.d.def_ 11 (d := d_copied) rfl
  g_copied := He.glo_ok X G (c.t.d.fact 11 (f := .glo "copied") rfl)
  F_put_from := c.t.d.def_ 12 (d := d_put_from) rfl
  g_put_from := He.glo_ok X G (c.t.d.fact 12 (f := .glo "put_from") rfl)
  F_is_broken := c.t.d.def_ 13 (d := d_is_broken) rfl
  g_is_broken := He.glo_ok X G (c.t.d.fact 13 (f := .glo "is_broken") rfl)
  F_chain_up := c.t.d.def_ 14 (d := d_chain_up) rfl
  g_chain_up := He.glo_ok X G (c.t.d.fact 14 (f := .glo "chain_up") rfl)
  F_one_above := c.t.d.def_ 15 (d := d_one_above) rfl
  g_one_above := He.glo_ok X G (c.t.d.fact 15 (f := .glo "one_above") rfl)
  F_depth_of := c.t.d.def_ 16 (d := d_depth_of) rfl
  g_depth_of := He.glo_ok X G (c.t.d.fact 16 (f := .glo "depth_of") rfl)
  F_rounds_needed := c.t.d.def_ 17 (d := d_rounds_needed) rfl
  g_rounds_needed := He.glo_ok X G (c.t.d.fact 17 (f := .glo "rounds_needed") rfl)
  F_round_of_each := c.t.d.def_ 18 (d := d_round_of_each) rfl
  g_round_of_each := He.glo_ok X G (c.t.d.fact 18 (f := .glo "round_of_each") rfl)
  F_is_put_anew := c.t.d.def_ 19 (d := d_is_put_anew) rfl
  g_is_put_anew := He.glo_ok X G (c.t.d.fact 19 (f := .glo "is_put_anew") rfl)
  F_Past_init := c.t.d.def_ 20 (d := d_Past_init) rfl
  F_Past_begin_phrase := c.t.d.def_ 21 (d := d_Past_begin_phrase) rfl
  F_Past_lay_down := c.t.d.def_ 22 (d := d_Past_lay_down) rfl
  F_Past_take_off := c.t.d.def_ 23 (d := d_Past_take_off) rfl
  F_Past_has_phrase := c.t.d.def_ 24 (d := d_Past_has_phrase) rfl
  F_Past_standing := c.t.d.def_ 25 (d := d_Past_standing) rfl
  F_Past_text_standing := c.t.d.def_ 26 (d := d_Past_text_standing) rfl
  F_Past_cells := c.t.d.def_ 27 (d := d_Past_cells) rfl
  F_Past_was_seen := c.t.d.def_ 28 (d := d_Past_was_seen) rfl
  F_Past_is_over := c.t.d.def_ 29 (d := d_Past_is_over) rfl
  F_Past_can_take_off := c.t.d.def_ 30 (d := d_Past_can_take_off) rfl
  F_Past_takes := c.t.d.def_ 31 (d := d_Past_takes) rfl
  F_Past_takes_phrase := c.t.d.def_ 32 (d := d_Past_takes_phrase) rfl
  F_Past_takes_put := c.t.d.def_ 33 (d := d_Past_takes_put) rfl
  F_Past_takes_back := c.t.d.def_ 34 (d := d_Past_takes_back) rfl
  F_first_wrong_line := c.t.d.def_ 35 (d := d_first_wrong_line) rfl
  g_first_wrong_line := He.glo_ok X G (c.t.d.fact 20 (f := .glo "first_wrong_line") rfl)
  F_Fresh_shows := c.t.d.def_ 36 (d := d_Fresh_shows) rfl
  F_Old_init := c.t.d.def_ 37 (d := d_Old_init) rfl
  F_Old_shows := c.t.d.def_ 38 (d := d_Old_shows) rfl
  F_Rounds_init := c.t.d.def_ 39 (d := d_Rounds_init) rfl
  F_Rounds_shows := c.t.d.def_ 40 (d := d_Rounds_shows) rfl
  F_Right_shows := c.t.d.def_ 41 (d := d_Right_shows) rfl
  F_Wrong_init := c.t.d.def_ 42 (d := d_Wrong_init) rfl
  F_Wrong_shows := c.t.d.def_ 43 (d := d_Wrong_shows) rfl
  F_told := c.t.d.def_ 44 (d := d_told) rfl
  g_told := He.glo_ok X G (c.t.d.fact 21 (f := .glo "told") rfl)
  F_law_cell_at := c.t.d.def_ 45 (d := d_law_cell_at) rfl
  g_law_cell_at := He.glo_ok X G (c.t.d.fact 22 (f := .glo "_law_cell_at") rfl)
  F_law_draw := c.t.d.def_ 46 (d := d_law_draw) rfl
  g_law_draw := He.glo_ok X G (c.t.d.fact 23 (f := .glo "_law_draw") rfl)
  F_law_number := c.t.d.def_ 47 (d := d_law_number) rfl
  g_law_number := He.glo_ok X G (c.t.d.fact 24 (f := .glo "_law_number") rfl)
  F_law_froms := c.t.d.def_ 48 (d := d_law_froms) rfl
  g_law_froms := He.glo_ok X G (c.t.d.fact 25 (f := .glo "_law_froms") rfl)
  F_law_chain := c.t.d.def_ 49 (d := d_law_chain) rfl
  g_law_chain := He.glo_ok X G (c.t.d.fact 26 (f := .glo "_law_chain") rfl)
  F_law_says := c.t.d.def_ 50 (d := d_law_says) rfl
  g_law_says := He.glo_ok X G (c.t.d.fact 27 (f := .glo "_law_says") rfl)
  F_law_drawn := c.t.d.def_ 51 (d := d_law_drawn) rfl
  g_law_drawn := He.glo_ok X G (c.t.d.fact 28 (f := .glo "_law_drawn") rfl)
  F_law_due := c.t.d.def_ 52 (d := d_law_due) rfl
  g_law_due := He.glo_ok X G (c.t.d.fact 29 (f := .glo "_law_due") rfl)
  F_law_right := c.t.d.def_ 53 (d := d_law_right) rfl
  g_law_right := He.glo_ok X G (c.t.d.fact 30 (f := .glo "_law_right") rfl)
  F_law_state_of := c.t.d.def_ 54 (d := d_law_state_of) rfl
  g_law_state_of := He.glo_ok X G (c.t.d.fact 31 (f := .glo "_law_state_of") rfl)
  F_law_changed_right := c.t.d.def_ 55 (d := d_law_changed_right) rfl
  g_law_changed_right := He.glo_ok X G (c.t.d.fact 32 (f := .glo "_law_changed_right") rfl)
  F_law := c.t.d.def_ 56 (d := d_law) rfl
  g_law := He.glo_ok X G (c.t.d.fact 33 (f := .glo "law") rfl)
  g_FEWEST_TONGUES := He.int_ok X G (c.t.d.fact 34 (f := .int "FEWEST_TONGUES" 2) rfl)
  g_MOST_TONGUES := He.int_ok X G (c.t.d.fact 35 (f := .int "MOST_TONGUES" 8) rfl)
  g_MOST_PHRASES := He.int_ok X G (c.t.d.fact 36 (f := .int "MOST_PHRASES" 6) rfl)
  g_MOST_LETTERS := He.int_ok X G (c.t.d.fact 37 (f := .int "MOST_LETTERS" 6) rfl)
  g_LETTERS := He.str_ok X G (c.t.d.fact 38 (f := .str "LETTERS" "abcdefghijklmnopqrstuvwxyz") rfl)
  f_all := He.free_ok X G (c.t.d.fact 39 (f := .free "all") rfl)
  f_bool := He.free_ok X G (c.t.d.fact 40 (f := .free "bool") rfl)
  f_enumerate := He.free_ok X G (c.t.d.fact 41 (f := .free "enumerate") rfl)
  f_int := He.free_ok X G (c.t.d.fact 42 (f := .free "int") rfl)
  f_isinstance := He.free_ok X G (c.t.d.fact 43 (f := .free "isinstance") rfl)
  f_len := He.free_ok X G (c.t.d.fact 44 (f := .free "len") rfl)
  f_list := He.free_ok X G (c.t.d.fact 45 (f := .free "list") rfl)
  f_range := He.free_ok X G (c.t.d.fact 46 (f := .free "range") rfl)
  f_str := He.free_ok X G (c.t.d.fact 47 (f := .free "str") rfl)
  f_tuple := He.free_ok X G (c.t.d.fact 48 (f := .free "tuple") rfl)
  g_Past := He.glo_ok X G (c.t.d.fact 49 (f := .glo "Past") rfl)
  k_Past := He.cls_ok (c.t.d.fact 50 (f := .cls "Past") rfl)
  m_Past_begin_phrase := He.meth_ok (c.t.d.fact 51 (f := .meth "Past" "begin_phrase") rfl)
  m_Past_lay_down := He.meth_ok (c.t.d.fact 52 (f := .meth "Past" "lay_down") rfl)
  m_Past_take_off := He.meth_ok (c.t.d.fact 53 (f := .meth "Past" "take_off") rfl)
  m_Past_has_phrase := He.meth_ok (c.t.d.fact 54 (f := .meth "Past" "has_phrase") rfl)
  m_Past_standing := He.meth_ok (c.t.d.fact 55 (f := .meth "Past" "standing") rfl)
  m_Past_text_standing := He.meth_ok (c.t.d.fact 56 (f := .meth "Past" "text_standing") rfl)
  m_Past_cells := He.meth_ok (c.t.d.fact 57 (f := .meth "Past" "cells") rfl)
  m_Past_was_seen := He.meth_ok (c.t.d.fact 58 (f := .meth "Past" "was_seen") rfl)
  m_Past_is_over := He.meth_ok (c.t.d.fact 59 (f := .meth "Past" "is_over") rfl)
  m_Past_can_take_off := He.meth_ok (c.t.d.fact 60 (f := .meth "Past" "can_take_off") rfl)
  m_Past_takes := He.meth_ok (c.t.d.fact 61 (f := .meth "Past" "takes") rfl)
  m_Past_takes_phrase := He.meth_ok (c.t.d.fact 62 (f := .meth "Past" "takes_phrase") rfl)
  m_Past_takes_put := He.meth_ok (c.t.d.fact 63 (f := .meth "Past" "takes_put") rfl)
  m_Past_takes_back := He.meth_ok (c.t.d.fact 64 (f := .meth "Past" "takes_back") rfl)
  i_Past := He.mkr_ok (c.t.d.fact 65 (f := .mkr "Past") rfl)
  t_Past := ins_ok (x := "Past") (exs_at c.more 0 rfl)
  is_Past_Past := of_decide_eq_true (exs_at c.more 1 rfl)
  is_Past_Answer := of_decide_eq_true (exs_at c.more 2 rfl)
  is_Past_Fresh := of_decide_eq_true (exs_at c.more 3 rfl)
  is_Past_Old := of_decide_eq_true (exs_at c.more 4 rfl)
  is_Past_Rounds := of_decide_eq_true (exs_at c.more 5 rfl)
  is_Past_Right := of_decide_eq_true (exs_at c.more 6 rfl)
  is_Past_Wrong := of_decide_eq_true (exs_at c.more 7 rfl)
  g_Answer := He.glo_ok X G (c.t.d.fact 66 (f := .glo "Answer") rfl)
  k_Answer := He.cls_ok (c.t.d.fact 67 (f := .cls "Answer") rfl)
  b_Answer := bare_ok (x := "Answer") (exs_at c.more 9 rfl)
  t_Answer := ins_ok (x := "Answer") (exs_at c.more 8 rfl)
  is_Answer_Past := of_decide_eq_true (exs_at c.more 10 rfl)
  is_Answer_Answer := of_decide_eq_true (exs_at c.more 11 rfl)
  is_Answer_Fresh := of_decide_eq_true (exs_at c.more 12 rfl)
  is_Answer_Old := of_decide_eq_true (exs_at c.more 13 rfl)
  is_Answer_Rounds := of_decide_eq_true (exs_at c.more 14 rfl)
  is_Answer_Right := of_decide_eq_true (exs_at c.more 15 rfl)
  is_Answer_Wrong := of_decide_eq_true (exs_at c.more 16 rfl)
  g_Fresh := He.glo_ok X G (c.t.d.fact 68 (f := .glo "Fresh") rfl)
  k_Fresh := He.cls_ok (c.t.d.fact 69 (f := .cls "Fresh") rfl)
  m_Fresh_shows := He.meth_ok (c.t.d.fact 70 (f := .meth "Fresh" "shows") rfl)
  b_Fresh := bare_ok (x := "Fresh") (exs_at c.more 18 rfl)
  t_Fresh := ins_ok (x := "Fresh") (exs_at c.more 17 rfl)
  is_Fresh_Past := of_decide_eq_true (exs_at c.more 19 rfl)
  is_Fresh_Answer := of_decide_eq_true (exs_at c.more 20 rfl)
  is_Fresh_Fresh := of_decide_eq_true (exs_at c.more 21 rfl)
  is_Fresh_Old := of_decide_eq_true (exs_at c.more 22 rfl)
  is_Fresh_Rounds := of_decide_eq_true (exs_at c.more 23 rfl)
  is_Fresh_Right := of_decide_eq_true (exs_at c.more 24 rfl)
  is_Fresh_Wrong := of_decide_eq_true (exs_at c.more 25 rfl)
  g_Old := He.glo_ok X G (c.t.d.fact 71 (f := .glo "Old") rfl)
  k_Old := He.cls_ok (c.t.d.fact 72 (f := .cls "Old") rfl)
  m_Old_shows := He.meth_ok (c.t.d.fact 73 (f := .meth "Old" "shows") rfl)
  i_Old := He.mkr_ok (c.t.d.fact 74 (f := .mkr "Old") rfl)
  t_Old := ins_ok (x := "Old") (exs_at c.more 26 rfl)
  is_Old_Past := of_decide_eq_true (exs_at c.more 27 rfl)
  is_Old_Answer := of_decide_eq_true (exs_at c.more 28 rfl)
  is_Old_Fresh := of_decide_eq_true (exs_at c.more 29 rfl)
  is_Old_Old := of_decide_eq_true (exs_at c.more 30 rfl)
  is_Old_Rounds := of_decide_eq_true (exs_at c.more 31 rfl)
  is_Old_Right := of_decide_eq_true (exs_at c.more 32 rfl)
  is_Old_Wrong := of_decide_eq_true (exs_at c.more 33 rfl)
  g_Rounds := He.glo_ok X G (c.t.d.fact 75 (f := .glo "Rounds") rfl)
  k_Rounds := He.cls_ok (c.t.d.fact 76 (f := .cls "Rounds") rfl)
  m_Rounds_shows := He.meth_ok (c.t.d.fact 77 (f := .meth "Rounds" "shows") rfl)
  i_Rounds := He.mkr_ok (c.t.d.fact 78 (f := .mkr "Rounds") rfl)
  t_Rounds := ins_ok (x := "Rounds") (exs_at c.more 34 rfl)
  is_Rounds_Past := of_decide_eq_true (exs_at c.more 35 rfl)
  is_Rounds_Answer := of_decide_eq_true (exs_at c.more 36 rfl)
  is_Rounds_Fresh := of_decide_eq_true (exs_at c.more 37 rfl)
  is_Rounds_Old := of_decide_eq_true (exs_at c.more 38 rfl)
  is_Rounds_Rounds := of_decide_eq_true (exs_at c.more 39 rfl)
  is_Rounds_Right := of_decide_eq_true (exs_at c.more 40 rfl)
  is_Rounds_Wrong := of_decide_eq_true (exs_at c.more 41 rfl)
  g_Right := He.glo_ok X G (c.t.d.fact 79 (f := .glo "Right") rfl)
  k_Right := He.cls_ok (c.t.d.fact 80 (f := .cls "Right") rfl)
  m_Right_shows := He.meth_ok (c.t.d.fact 81 (f := .meth "Right" "shows") rfl)
  b_Right := bare_ok (x := "Right") (exs_at c.more 43 rfl)
  t_Right := ins_ok (x := "Right") (exs_at c.more 42 rfl)
  is_Right_Past := of_decide_eq_true (exs_at c.more 44 rfl)
  is_Right_Answer := of_decide_eq_true (exs_at c.more 45 rfl)
  is_Right_Fresh := of_decide_eq_true (exs_at c.more 46 rfl)
  is_Right_Old := of_decide_eq_true (exs_at c.more 47 rfl)
  is_Right_Rounds := of_decide_eq_true (exs_at c.more 48 rfl)
  is_Right_Right := of_decide_eq_true (exs_at c.more 49 rfl)
  is_Right_Wrong := of_decide_eq_true (exs_at c.more 50 rfl)
  g_Wrong := He.glo_ok X G (c.t.d.fact 82 (f := .glo "Wrong") rfl)
  k_Wrong := He.cls_ok (c.t.d.fact 83 (f := .cls "Wrong") rfl)
  m_Wrong_shows := He.meth_ok (c.t.d.fact 84 (f := .meth "Wrong" "shows") rfl)
  i_Wrong := He.mkr_ok (c.t.d.fact 85 (f := .mkr "Wrong") rfl)
  t_Wrong := ins_ok (x := "Wrong") (exs_at c.more 51 rfl)
  is_Wrong_Past := of_decide_eq_true (exs_at c.more 52 rfl)
  is_Wrong_Answer := of_decide_eq_true (exs_at c.more 53 rfl)
  is_Wrong_Fresh := of_decide_eq_true (exs_at c.more 54 rfl)
  is_Wrong_Old := of_decide_eq_true (exs_at c.more 55 rfl)
  is_Wrong_Rounds := of_decide_eq_true (exs_at c.more 56 rfl)
  is_Wrong_Right := of_decide_eq_true (exs_at c.more 57 rfl)
  is_Wrong_Wrong := of_decide_eq_true (exs_at c.more 58 rfl)
  n_Past_ever := He.noat_ok (c.t.d.fact 86 (f := .noat "Past" "ever") rfl)
  n_Past_froms := He.noat_ok (c.t.d.fact 87 (f := .noat "Past" "froms") rfl)
  n_Past_origins := He.noat_ok (c.t.d.fact 88 (f := .noat "Past" "origins") rfl)
  n_Past_phrases := He.noat_ok (c.t.d.fact 89 (f := .noat "Past" "phrases") rfl)
  n_Past_piles := He.noat_ok (c.t.d.fact 90 (f := .noat "Past" "piles") rfl)
  n_Past_texts := He.noat_ok (c.t.d.fact 91 (f := .noat "Past" "texts") rfl)
  n_Old_chain := He.noat_ok (c.t.d.fact 92 (f := .noat "Old" "chain") rfl)
  n_Rounds_depth := He.noat_ok (c.t.d.fact 93 (f := .noat "Rounds" "depth") rfl)
  n_Rounds_rows := He.noat_ok (c.t.d.fact 94 (f := .noat "Rounds" "rows") rfl)
  n_Wrong_line := He.noat_ok (c.t.d.fact 95 (f := .noat "Wrong" "line") rfl)
  g_PhraseError := He.glo_ok X G (c.t.d.fact 96 (f := .glo "PhraseError") rfl)
  g_BadFroms := He.glo_ok X G (c.t.d.fact 98 (f := .glo "BadFroms") rfl)
  g_BadTongue := He.glo_ok X G (c.t.d.fact 100 (f := .glo "BadTongue") rfl)
  g_BadRow := He.glo_ok X G (c.t.d.fact 102 (f := .glo "BadRow") rfl)

end PD

namespace PD
open PySem PySem.Spec PyProof.Rows L2

/-! Phrasedesk, part 2: the program's defs -/
--# is_number
theorem qt {Q : V → Hp → Prop} {H : Hp} {b c : Bool} (h : b = c) (q : Q (.bl c) H) : Q (.bl b) H := by
  rw [h]
  exact q
theorem ivs {ns : List Int} {i : Nat} {x : Int} (h : ns[i]? = some x) : (ns.map V.int)[i]? = some (V.int x) := by
  rw [List.getElem?_map, h]
  rfl
def spNum (K : PySem.W.Frag) : Sp := fun vs H Q _ => ∃ (v : V) (t : Value) (b1 b2 : Bool), vs = [v] ∧ TyX K H v t ∧ PySem.W.kitOne K t (.type "int") = some b1 ∧ PySem.W.kitOne K t (.type "bool") = some b2 ∧ Q (.bl (b1 && !b2)) H
theorem sc_is_number : FnScope ["value"] ["value"] (defScope s_is_number) := ⟨rfl, rfl, rfl, by decide +kernel, rfl, by decide +kernel, by decide +kernel⟩
theorem c_is_number {P : Program} {w : World} {K : PySem.W.Frag} {mg : Str → Option Value} {base : Heap} (T : Tx K mg) : C8.Cal P w K mg base 1 "is_number" (spNum K) [] := by
  refine calD T.F_is_number T.g_is_number (fun _ _ _ _ _ _ us hl => match us, hl with | [_], _ => rfl) sc_is_number (fun vs H Q E h => ?_) (fun cdv A outer s H vs Q E hr h => ?_)
  · obtain ⟨v, t, b1, b2, rfl, _⟩ := h
    rfl
  · obtain ⟨v, t, b1, b2, rfl, ty, k1, k2, q⟩ := h
    refine ⟨_, (pss_one (ps_ret (pe_and (pe_callB call_isi (by rfl) T.f_isinstance (by decide +kernel) (pa_cons (pv 0) (pa_cons (pe_bltn (v := .ty "int") (by rfl) T.f_int (by decide +kernel) rfl) pa_nil))) (pe_one (pe_not (pe_callB call_isi (by rfl) T.f_isinstance (by decide +kernel) (pa_cons (pv 0) (pa_cons (pe_bltn (v := .ty "bool") (by rfl) T.f_bool (by decide +kernel) rfl) pa_nil)))))))), ?_⟩
    refine ⟨_, rfl, _, _, t, _, b1, rfl, .ty _, ty, k1, b1, rfl, ?_⟩
    cases b1 with
    | false => exact iteF q
    | true => exact iteT ⟨_, rfl, _, _, t, _, b2, rfl, .ty _, ty, k2, b2, rfl, q⟩
--# is_count
def spCount : Sp := fun vs H Q _ => ∃ i : Int, vs = [.int i] ∧ Q (.bl (decide (0 ≤ i))) H
theorem sc_is_count : FnScope ["value"] ["value"] (defScope s_is_count) := ⟨rfl, rfl, rfl, by decide +kernel, rfl, by decide +kernel, by decide +kernel⟩
theorem c_is_count {P : Program} {w : World} {K : PySem.W.Frag} {mg : Str → Option Value} {base : Heap} (T : Tx K mg) : C8.Cal P w K mg base 2 "is_count" (spCount) [] := by
  refine calD T.F_is_count T.g_is_count (fun _ _ _ _ _ _ us hl => match us, hl with | [_], _ => rfl) sc_is_count (fun vs H Q E h => ?_) (fun cdv A outer s H vs Q E hr h => ?_)
  · obtain ⟨i, rfl, _⟩ := h
    rfl
  · obtain ⟨i, rfl, q⟩ := h
    refine ⟨_, (pss_one (ps_ret (pe_and (C8.pe_c (c_is_number T) hr (by decide) rfl (pa_cons (pv 0) pa_nil)) (pe_one (pe_cmpR op_ge (pv 0) pe_int (nomark _)))))), ?_⟩
    refine ⟨_, rfl, _, _, true, false, rfl, .base (.int i), is_ty (by decide +kernel), is_ty (by decide +kernel), true, rfl, iteT ⟨_, rfl, i, 0, rfl, rfl, q⟩⟩
--# is_pair
def spPair : Sp := fun vs H Q _ => ∃ (p : Addr) (x y : V), vs = [.ref p] ∧ H p = some (.tup [x, y]) ∧ Q (.bl true) H
theorem sc_is_pair : FnScope ["value"] ["value"] (defScope s_is_pair) := ⟨rfl, rfl, rfl, by decide +kernel, rfl, by decide +kernel, by decide +kernel⟩
theorem c_is_pair {P : Program} {w : World} {K : PySem.W.Frag} {mg : Str → Option Value} {base : Heap} (T : Tx K mg) : C8.Cal P w K mg base 1 "is_pair" (spPair) [] := by
  refine calD T.F_is_pair T.g_is_pair (fun _ _ _ _ _ _ us hl => match us, hl with | [_], _ => rfl) sc_is_pair (fun vs H Q E h => ?_) (fun cdv A outer s H vs Q E hr h => ?_)
  · obtain ⟨p, x, y, rfl, _⟩ := h
    rfl
  · obtain ⟨p, x, y, rfl, hp, q⟩ := h
    refine ⟨_, (pss_one (ps_ret (pe_and (pe_callB call_isi (by rfl) T.f_isinstance (by decide +kernel) (pa_cons (pv 0) (pa_cons (pe_bltn (v := .ty "tuple") (by rfl) T.f_tuple (by decide +kernel) rfl) pa_nil))) (pe_one (pe_cmpR op_eq (pe_callB call_len_seq (by rfl) T.f_len (by decide +kernel) (pa_cons (pv 0) pa_nil)) pe_int (nomark _)))))), ?_⟩
    refine ⟨_, rfl, _, _, _, _, true, rfl, .ty _, .base (.tup hp), is_ty (by decide +kernel), true, rfl, iteT ⟨_, rfl, p, _, rfl, .inr (SqT.of hp), rfl, ?_⟩⟩
    exact qt (decide_eq_true rfl) q
--# is_tongue
def spTongue : Sp := fun vs H Q _ => ∃ (a : Addr) (fr : List Int) (t : Int), vs = [.ref a, .int t] ∧ LsAt H a fr ∧ Q (.bl (decide (0 ≤ t) && decide (t ≤ (fr.length : Int)))) H
theorem sc_is_tongue : FnScope ["froms", "value"] ["froms", "value"] (defScope s_is_tongue) := ⟨rfl, rfl, rfl, by decide +kernel, rfl, by decide +kernel, by decide +kernel⟩
theorem c_is_tongue {P : Program} {w : World} {K : PySem.W.Frag} {mg : Str → Option Value} {base : Heap} (T : Tx K mg) : C8.Cal P w K mg base 3 "is_tongue" (spTongue) [] := by
  refine calD T.F_is_tongue T.g_is_tongue (fun _ _ _ _ _ _ us hl => match us, hl with | [_, _], _ => rfl) sc_is_tongue (fun vs H Q E h => ?_) (fun cdv A outer s H vs Q E hr h => ?_)
  · obtain ⟨a, fr, t, rfl, _⟩ := h
    rfl
  · obtain ⟨a, fr, t, rfl, ha, q⟩ := h
    refine ⟨_, (pss_one (ps_ret (pe_and (C8.pe_c (c_is_count T) hr (by decide) rfl (pa_cons (pv 1) pa_nil)) (pe_one (pe_cmpR op_le (pv 1) (pe_callB call_len_seq (by rfl) T.f_len (by decide +kernel) (pa_cons (pv 0) pa_nil)) (nomark _)))))), ?_⟩
    refine ⟨_, rfl, t, rfl, decide (0 ≤ t), rfl, ?_⟩
    by_cases h0 : 0 ≤ t
    · rw [decide_eq_true h0] at q ⊢
      refine iteT ⟨_, rfl, _, rfl, a, _, rfl, .inl (SqL.of ha), t, _, rfl, rfl, ?_⟩
      rw [List.length_map]
      exact q
    · rw [decide_eq_false h0] at q ⊢
      exact iteF q
--# is_source_cell
def spSrc : Sp := fun vs H Q _ => ∃ (p : Addr) (a : Int), vs = [.ref p] ∧ H p = some (.tup [.int a, .non]) ∧ 0 ≤ a ∧ Q (.bl true) H
theorem sc_is_source_cell : FnScope ["value"] ["value"] (defScope s_is_source_cell) := ⟨rfl, rfl, rfl, by decide +kernel, rfl, by decide +kernel, by decide +kernel⟩
theorem c_is_source_cell {P : Program} {w : World} {K : PySem.W.Frag} {mg : Str → Option Value} {base : Heap} (T : Tx K mg) : C8.Cal P w K mg base 3 "is_source_cell" (spSrc) [] := by
  refine calD T.F_is_source_cell T.g_is_source_cell (fun _ _ _ _ _ _ us hl => match us, hl with | [_], _ => rfl) sc_is_source_cell (fun vs H Q E h => ?_) (fun cdv A outer s H vs Q E hr h => ?_)
  · obtain ⟨p, a, rfl, _⟩ := h
    rfl
  · obtain ⟨p, a, rfl, hp, h0, q⟩ := h
    refine ⟨_, (pss_one (ps_ret (pe_and (C8.pe_c (c_is_pair T) hr (by decide) rfl (pa_cons (pv 0) pa_nil)) (pe_and (C8.pe_c (c_is_count T) hr (by decide) rfl (pa_cons (pe_ix ix_tup (pv 0) pe_int (fun _ _ => rfl)) pa_nil)) (pe_one (pe_cmpR op_isN (pe_ix ix_tup (pv 0) pe_int (fun _ _ => rfl)) pe_non (nomark _))))))), ?_⟩
    refine ⟨_, rfl, p, _, _, rfl, hp, true, rfl, iteT ⟨_, rfl, p, _, _, _, rfl, rfl, SqT.of hp, atI_nat (j := 0) rfl, a, rfl, true, ?_, iteT ⟨_, rfl, p, _, _, _, rfl, rfl, SqT.of hp, atI_nat (j := 1) rfl, rfl, qt (decide_eq_true rfl) q⟩⟩⟩
    rw [decide_eq_true h0]
--# is_other_cell
def spOther : Sp := fun vs H Q _ => ∃ (v : V) (c : Cell), vs = [v] ∧ CellV H v c ∧ (c = none ∨ ∃ a b, c = some (a, some b) ∧ 0 ≤ a ∧ 0 ≤ b) ∧ Q (.bl true) H
theorem sc_is_other_cell : FnScope ["value"] ["value"] (defScope s_is_other_cell) := ⟨rfl, rfl, rfl, by decide +kernel, rfl, by decide +kernel, by decide +kernel⟩
theorem c_is_other_cell {P : Program} {w : World} {K : PySem.W.Frag} {mg : Str → Option Value} {base : Heap} (T : Tx K mg) : C8.Cal P w K mg base 3 "is_other_cell" (spOther) [] := by
  refine calD T.F_is_other_cell T.g_is_other_cell (fun _ _ _ _ _ _ us hl => match us, hl with | [_], _ => rfl) sc_is_other_cell (fun vs H Q E h => ?_) (fun cdv A outer s H vs Q E hr h => ?_)
  · obtain ⟨v, c, rfl, _⟩ := h
    rfl
  · obtain ⟨v, c, rfl, hc, ho, q⟩ := h
    rcases ho with rfl | ⟨a, b, rfl, h0, h1⟩
    · cases (show v = .non from hc)
      refine ⟨_, (pss_one (ps_ret (pe_or (pe_cmpR op_isN (pv 0) pe_non (nomark _)) (pe_one (pe_and (C8.pe_c (c_is_pair T) hr (by decide) rfl (pa_cons (pv 0) pa_nil)) (pe_and (C8.pe_c (c_is_count T) hr (by decide) rfl (pa_cons (pe_ix ix_tup (pv 0) pe_int (fun _ _ => rfl)) pa_nil)) (pe_one (C8.pe_c (c_is_count T) hr (by decide) rfl (pa_cons (pe_ix ix_tup (pv 0) pe_int (fun _ _ => rfl)) pa_nil))))))))), ?_⟩
      exact ⟨_, rfl, rfl, true, by rw [decide_eq_true rfl], iteT q⟩
    · obtain ⟨p, rfl, hp⟩ := hc
      refine ⟨_, (pss_one (ps_ret (pe_or (pe_cmpR op_isN (pv 0) pe_non (nomark _)) (pe_one (pe_and (C8.pe_c (c_is_pair T) hr (by decide) rfl (pa_cons (pv 0) pa_nil)) (pe_and (C8.pe_c (c_is_count T) hr (by decide) rfl (pa_cons (pe_ix ix_tup (pv 0) pe_int (fun _ _ => rfl)) pa_nil)) (pe_one (C8.pe_c (c_is_count T) hr (by decide) rfl (pa_cons (pe_ix ix_tup (pv 0) pe_int (fun _ _ => rfl)) pa_nil))))))))), ?_⟩
      refine ⟨_, rfl, rfl, false, by rw [decide_eq_false (by intro z; cases z)], iteF ?_⟩
      refine ⟨_, rfl, p, _, _, rfl, hp, true, rfl, iteT ⟨_, rfl, p, _, _, _, rfl, rfl, SqT.of hp, atI_nat (j := 0) rfl, a, rfl, true, ?_, iteT ⟨_, rfl, p, _, _, _, rfl, rfl, SqT.of hp, atI_nat (j := 1) rfl, b, rfl, ?_⟩⟩⟩
      · rw [decide_eq_true h0]
      · exact qt (decide_eq_true h1) q
--# put_from
def spFrom : Sp := fun vs H Q _ => ∃ (a : Addr) (fr : List Int) (t : Nat) (x : Int), vs = [.ref a, .int (t : Int)] ∧ LsAt H a fr ∧ 0 < t ∧ fr[t - 1]? = some x ∧ Q (.int x) H
theorem sc_put_from : FnScope ["froms", "tongue"] ["froms", "tongue"] (defScope s_put_from) := ⟨rfl, rfl, rfl, by decide +kernel, rfl, by decide +kernel, by decide +kernel⟩
theorem c_put_from {P : Program} {w : World} {K : PySem.W.Frag} {mg : Str → Option Value} {base : Heap} (T : Tx K mg) : C8.Cal P w K mg base 1 "put_from" (spFrom) [] := by
  refine calD T.F_put_from T.g_put_from (fun _ _ _ _ _ _ us hl => match us, hl with | [_, _], _ => rfl) sc_put_from (fun vs H Q E h => ?_) (fun cdv A outer s H vs Q E hr h => ?_)
  · obtain ⟨a, fr, t, x, rfl, _⟩ := h
    rfl
  · obtain ⟨a, fr, t, x, rfl, ha, h0, hx, q⟩ := h
    refine ⟨_, (pss_one (ps_ret (pe_ix ix_list (pv 0) (pe_op op_sub (pv 1) pe_int) (fun _ _ => rfl)))), ?_⟩
    exact ⟨_, rfl, _, rfl, _, _, rfl, rfl, a, _, _, _, rfl, rfl, SqL.of ha, at_of (j := t - 1) (by omega) (ivs hx), q⟩
--# is_broken
def spBrk : Sp := fun vs H Q _ => ∃ (a : Addr) (fr : List Int) (p : Addr) (row : List Cell) (t : Nat), vs = [.ref a, .ref p, .int (t : Int)] ∧ LsAt H a fr ∧ FrOk fr ∧ RowAt H p row ∧ RowOk fr row ∧ 0 < t ∧ t ≤ fr.length ∧ Q (.bl (brk fr row t)) H
theorem getD_of {α : Type} {l : List α} {i : Nat} {d x : α} (h : l[i]? = some x) : l.getD i d = x := by
  rw [List.getD_eq_getElem?_getD, h]
  rfl
theorem sc_is_broken : FnScope ["froms", "row", "tongue", "cell", "above"] ["froms", "row", "tongue"] (defScope s_is_broken) := ⟨rfl, rfl, rfl, by decide +kernel, rfl, by decide +kernel, by decide +kernel⟩
theorem c_is_broken {P : Program} {w : World} {K : PySem.W.Frag} {mg : Str → Option Value} {base : Heap} (T : Tx K mg) : C8.Cal P w K mg base 2 "is_broken" (spBrk) [] := by
  refine calD T.F_is_broken T.g_is_broken (fun _ _ _ _ _ _ us hl => match us, hl with | [_, _, _], _ => rfl) sc_is_broken (fun vs H Q E h => ?_) (fun cdv A outer s H vs Q E hr h => ?_)
  · obtain ⟨a, fr, p, row, t, rfl, _⟩ := h
    rfl
  · obtain ⟨a, fr, p, row, t, rfl, ha, fo, hp, ro, h0, h1, q⟩ := h
    obtain ⟨vs, hv, hc⟩ := hp
    obtain ⟨x, ex, x0, xl, xu⟩ := fo.at h0 h1
    have hl1 : t < row.length := by rw [ro.len]; omega
    have hl2 : up fr t < row.length := by rw [ro.len]; omega
    obtain ⟨v1, e1, c1⟩ := hc.each t row[t] (List.getElem?_eq_getElem hl1)
    obtain ⟨v2, e2, c2⟩ := hc.each (up fr t) row[up fr t] (List.getElem?_eq_getElem hl2)
    have g1 : row.getD t none = row[t] := getD_of (List.getElem?_eq_getElem hl1)
    have g2 : row.getD (up fr t) none = row[up fr t] := getD_of (List.getElem?_eq_getElem hl2)
    unfold brk at q
    rw [g1, g2] at q
    refine ⟨_, (pss_cons (ps_set (i := 3) sc_is_broken.nd rfl (Or.inl rfl) (pe_ix ix_list (pv 1) (pv 2) (fun _ _ => rfl)))
    (pss_cons (ps_set (i := 4) sc_is_broken.nd rfl (Or.inl rfl) (pe_ix ix_list (pv 1) (C8.pe_c (c_put_from T) hr (by decide) rfl (pa_cons (pv 0) (pa_cons (pv 2) pa_nil))) (fun _ _ => rfl)))
    (pss_one (ps_ret (pe_or (pe_cmpR op_isN (pv 3) pe_non (nomark _)) (pe_or (pe_cmpR op_isN (pv 4) pe_non (nomark _)) (pe_one (pe_cmpR op_ne (pe_ix ix_tup (pv 3) pe_int (fun _ _ => rfl)) (pe_ix ix_tup (pv 4) pe_int (fun _ _ => rfl)) (nomark _))))))))), ?_⟩
    refine ⟨_, rfl, _, rfl, p, _, _, v1, rfl, rfl, SqL.of hv, atI_nat e1, _, rfl, _, rfl, _, rfl, a, fr, t, x, rfl, ha, h0, ex, p, _, _, v2, rfl, rfl, SqL.of hv, at_of (j := up fr t) xu e2, ?_⟩
    cases q1 : row[t] with
    | none =>
      rw [q1] at c1 q
      cases (show v1 = .non from c1)
      exact ⟨_, rfl, rfl, true, by rw [decide_eq_true rfl], iteT q⟩
    | some c =>
      obtain ⟨n1, b1⟩ := c
      rw [q1] at c1 q
      obtain ⟨p1, rfl, k1⟩ := c1
      refine ⟨_, rfl, rfl, false, by rw [decide_eq_false (by intro z; cases z)], iteF ?_⟩
      cases q2 : row[up fr t] with
      | none =>
        rw [q2] at c2 q
        cases (show v2 = .non from c2)
        exact ⟨_, rfl, rfl, true, by rw [decide_eq_true rfl], iteT q⟩
      | some d =>
        obtain ⟨n2, b2⟩ := d
        rw [q2] at c2 q
        obtain ⟨p2, rfl, k2⟩ := c2
        obtain ⟨m1, m2, em, _, _⟩ : ∃ a b, (some (n1, b1) : Cell) = some (a, some b) ∧ 0 ≤ a ∧ 0 ≤ b := by
          have et : row[t - 1 + 1]? = some (some (n1, b1)) := by
            rw [show t - 1 + 1 = t by omega, List.getElem?_eq_getElem hl1, q1]
          rcases ro.each (t - 1) _ et with z | z
          · cases z
          · exact z
        cases em
        refine ⟨_, rfl, rfl, false, by rw [decide_eq_false (by intro z; cases z)], iteF ?_⟩
        refine ⟨_, rfl, p1, _, _, _, rfl, rfl, SqT.of k1, atI_nat (j := 1) rfl, _, rfl, p2, _, _, _, rfl, rfl, SqT.of k2, atI_nat (j := 0) rfl, rfl, ?_⟩
        refine qt ?_ q
        show (!decide (V.int m2 = V.int n2)) = !decide (some m2 = some n2)
        by_cases z : m2 = n2
        · subst z
          simp
        · have z1 : ¬ V.int m2 = V.int n2 := fun y => z (V.int.inj y)
          have z2 : ¬ some m2 = some n2 := fun y => z (Option.some.inj y)
          rw [decide_eq_false z1, decide_eq_false z2]

end PD

namespace PD
open PySem PySem.Spec PyProof.Rows L2

/-! Phrasedesk, part 3: chain_up, copied, is_froms, is_row, the answers, told -/
--# chain_up
def spChain : Sp := fun vs H Q _ => ∃ (a : Addr) (fr : List Int) (p : Addr) (row : List Cell) (t : Nat), vs = [.ref a, .ref p, .int (t : Int)] ∧ LsAt H a fr ∧ FrOk fr ∧ RowAt H p row ∧ RowOk fr row ∧ t ≤ fr.length ∧
  (chain fr row t = none → ∀ H' : Hp, Same H H' → Q .non H') ∧ (∀ c, chain fr row t = some c → ∀ (H' : Hp) (l : Addr), Same H H' → H l = none → LsAt H' l c → Q (.ref l) H')
theorem map_some_app {o : Option (List Int)} {acc : List Int} {x : Int} : (o.map (x :: ·)).map (acc ++ ·) = o.map ((acc ++ [x]) ++ ·) := by
  cases o with
  | none => rfl
  | some r => simp
theorem sc_chain_up : FnScope ["froms", "row", "tongue", "chain", "at"] ["froms", "row", "tongue"] (defScope s_chain_up) := ⟨rfl, rfl, rfl, by decide +kernel, rfl, by decide +kernel, by decide +kernel⟩
theorem c_chain_up {P : Program} {w : World} {K : PySem.W.Frag} {mg : Str → Option Value} {base : Heap} (T : Tx K mg) : C8.Cal P w K mg base 3 "chain_up" (spChain) [] := by
  refine calD T.F_chain_up T.g_chain_up (fun _ _ _ _ _ _ us hl => match us, hl with | [_, _, _], _ => rfl) sc_chain_up (fun vs H Q E h => ?_) (fun cdv A outer s H vs Q E hr h => ?_)
  · obtain ⟨a, fr, p, row, t, rfl, _⟩ := h
    rfl
  · obtain ⟨a, fr, p, row, t, rfl, ha, fo, hp, ro, ht, q0, q1⟩ := h
    refine ⟨_, (pss_cons (ps_set (i := 3) sc_chain_up.nd rfl (Or.inl rfl) (pe_lst pa_nil))
    (pss_cons (ps_set (i := 4) sc_chain_up.nd rfl (Or.inl rfl) (pv 2))
    (pss_cons (ps_while PassesOwn.never (pt_cmpR op_gt (pv 4) pe_int (nomark _))
      (pss_cons (ps_expr (pe_bm PySem.F.plainAttrs_list PySem.F.slot_list_append PySem.F.type_list_append mt_append (pv 3) (pa_cons (pv 4) pa_nil)))
      (pss_cons (ps_if (pt_val (C8.pe_c (c_is_broken T) hr (by decide) rfl (pa_cons (pv 0) (pa_cons (pv 1) (pa_cons (pv 4) pa_nil)))))
        (pss_one (ps_ret (pv 3)))
        pss_nil)
      (pss_one (ps_set (i := 4) sc_chain_up.nd rfl (Or.inl rfl) (C8.pe_c (c_put_from T) hr (by decide) rfl (pa_cons (pv 0) (pa_cons (pv 4) pa_nil))))))))
    (pss_one (ps_ret pe_non))))), ?_⟩
    refine ⟨Nat.zero_le _, fun l nl => ?_⟩
    have s0 : Same H (upd H l (.lst [])) := same_upd nl
    refine ⟨_, rfl, fun u σ H1 => ∃ acc : List Int, σ = [some (.ref a), some (.ref p), some (.int (t : Int)), some (.ref l), some (.int (u : Int))] ∧ u ≤ fr.length ∧ Same H H1 ∧ LsAt H1 l acc ∧ acc.length + u ≤ t ∧ chain fr row t = (chain fr row u).map (acc ++ ·), ⟨t, [], rfl, ht, s0, upd_same, by simp, by simp⟩, ?_⟩
    rintro u σ H1 ⟨acc, rfl, hu, s1, hl, hn, he⟩
    refine ⟨_, rfl, _, _, rfl, rfl, decide ((0 : Int) < (u : Int)), rfl, ?_⟩
    by_cases h0 : (0 : Int) < (u : Int)
    · rw [decide_eq_true h0]
      refine iteT ⟨fun σ' H' => ∃ m', m' < u ∧ ∃ acc : List Int, σ' = [some (.ref a), some (.ref p), some (.int (t : Int)), some (.ref l), some (.int (m' : Int))] ∧ m' ≤ fr.length ∧ Same H H' ∧ LsAt H' l acc ∧ acc.length + m' ≤ t ∧ chain fr row t = (chain fr row m').map (acc ++ ·), fun σ' H' h => h, ?_⟩
      have u0 : 0 < u := by omega
      have hz : acc.length < sizeLine := small1000 (by have := fo.hi; omega)
      refine ⟨_, rfl, .inl ⟨rfl, _, SqL.of hl⟩, _, rfl, l, _, _, rfl, rfl, hl, by rw [List.length_map]; exact hz, ?_⟩
      have s2 : Same H (upd H1 l (.lst (acc.map V.int ++ [V.int (u : Int)]))) := Same.chg s1 nl
      have hl2 : LsAt (upd H1 l (.lst (acc.map V.int ++ [V.int (u : Int)]))) l (acc ++ [(u : Int)]) := by
        unfold LsAt
        rw [upd_same, List.map_append]
        rfl
      refine ⟨_, rfl, _, rfl, _, rfl, a, fr, p, row, u, rfl, ha.same s2, fo, hp.same s2, ro, u0, hu, brk fr row u, rfl, ?_⟩
      have hs := chain_step (row := row) fo u0 hu
      cases hb : brk fr row u with
      | true =>
        rw [hb] at hs
        have ec : chain fr row t = some (acc ++ [(u : Int)]) := by
          rw [he, hs]
          rfl
        exact iteT ⟨_, rfl, q1 _ ec _ l s2 nl hl2⟩
      | false =>
        rw [hb] at hs
        obtain ⟨x, ex, x0, xl, xu⟩ := fo.at u0 hu
        refine iteF ⟨_, rfl, _, rfl, a, fr, u, x, rfl, ha.same s2, u0, ex, ?_⟩
        refine ⟨up fr u, up_lt fo u0 hu, acc ++ [(u : Int)], by rw [xu]; rfl, by have := up_lt fo u0 hu; omega, s2, hl2, ?_, ?_⟩
        · have := up_lt fo u0 hu
          simp
          omega
        · rw [he, hs]
          exact map_some_app
    · rw [decide_eq_false h0]
      have u0 : u = 0 := by omega
      subst u0
      refine iteF (q0 ?_ _ s1)
      rw [he, chain_zero]
      rfl
--# copied_int
def spCopyI : Sp := fun vs H Q _ => ∃ i : Int, vs = [.int i] ∧ Q (.int i) H
theorem sc_copied : FnScope ["value", "part"] ["value"] (defScope s_copied) := ⟨rfl, rfl, rfl, by decide +kernel, rfl, by decide +kernel, by decide +kernel⟩
theorem c_copied_int {P : Program} {w : World} {K : PySem.W.Frag} {mg : Str → Option Value} {base : Heap} (T : Tx K mg) : C8.Cal P w K mg base 1 "copied" (spCopyI) [] := by
  refine calD T.F_copied T.g_copied (fun _ _ _ _ _ _ us hl => match us, hl with | [_], _ => rfl) sc_copied (fun vs H Q E h => ?_) (fun cdv A outer s H vs Q E hr h => ?_)
  · obtain ⟨i, rfl, _⟩ := h
    rfl
  · obtain ⟨i, rfl, q⟩ := h
    refine ⟨_, (pss_cons (ps_if (pt_val (pe_callB call_isi (by rfl) T.f_isinstance (by decide +kernel) (pa_cons (pv 0) (pa_cons (pe_bltn (v := .ty "list") (by rfl) T.f_list (by decide +kernel) rfl) pa_nil))))
      (pss_one ps_never)
      pss_nil)
    (pss_one (ps_ret (pv 0)))), ?_⟩
    refine ⟨_, rfl, _, _, _, _, false, rfl, .ty _, .base (.int i), is_ty (by decide +kernel), false, rfl, iteF ⟨_, rfl, q⟩⟩
--# copied
def spCopyL : Sp := fun vs H Q _ => ∃ (a : Addr) (ns : List Int), vs = [.ref a] ∧ LsAt H a ns ∧ ns.length ≤ 5000 ∧ ∀ (H' : Hp) (l : Addr), Same H H' → H l = none → LsAt H' l ns → Q (.ref l) H'
theorem small5000 {n : Nat} (h : n ≤ 5000) : n < sizeLine := Nat.lt_of_le_of_lt h (by decide)
theorem ivs_of {ns : List Int} {i : Nat} {x : V} (h : (ns.map V.int)[i]? = some x) : ∃ z, x = .int z ∧ ns[i]? = some z := by
  rw [List.getElem?_map] at h
  cases e : ns[i]? with
  | none =>
    rw [e] at h
    cases h
  | some z =>
    rw [e] at h
    exact ⟨z, (Option.some.inj h).symm, rfl⟩
theorem c_copied {P : Program} {w : World} {K : PySem.W.Frag} {mg : Str → Option Value} {base : Heap} (T : Tx K mg) : C8.Cal P w K mg base 2 "copied" (spCopyL) [] := by
  refine calD T.F_copied T.g_copied (fun _ _ _ _ _ _ us hl => match us, hl with | [_], _ => rfl) sc_copied (fun vs H Q E h => ?_) (fun cdv A outer s H vs Q E hr h => ?_)
  · obtain ⟨a, ns, rfl, _⟩ := h
    rfl
  · obtain ⟨a, ns, rfl, ha, hn, q⟩ := h
    refine ⟨_, (pss_cons (ps_if (pt_val (pe_callB call_isi (by rfl) T.f_isinstance (by decide +kernel) (pa_cons (pv 0) (pa_cons (pe_bltn (v := .ty "list") (by rfl) T.f_list (by decide +kernel) rfl) pa_nil))))
      (pss_one (ps_ret (pe_lc (own := [("part", 1)]) (g := gName 1) (tt := tYes) (by rfl) sc_copied.nd (pi_list (pv 0)) (blkOk_by (own := [("part", 1)]) (N := ["value", "part"]) (sc := defScope s_copied) (by decide +kernel)) (fun _ _ _ _ _ => (pg_name (i := 1) sc_copied.nd rfl (Or.inl rfl))) (fun _ _ _ _ _ => pts_nil) (fun _ _ _ _ _ => (C8.pe_c (c_copied_int T) hr (by decide) rfl (pa_cons (pv 1) pa_nil))))))
      pss_nil)
    (pss_one (ps_ret (pv 0)))), ?_⟩
    refine ⟨_, rfl, _, _, _, _, true, rfl, .ty _, .base (.lst ha), is_ty (by decide +kernel), true, rfl, iteT ⟨_, rfl, a, rfl, ⟨_, SqL.of ha⟩, fun D nD => ?_⟩⟩
    refine lc_list (K := K) (a := a) (xs := ns.map V.int) (fun i H1 => Same H H1 ∧ LsAt H1 D (ns.take i)) ⟨same_upd nD, upd_same⟩ (fun i H1 _ p => SqL.of (ha.same p.1)) ?_ ?_
    · rintro i x H1 hx ⟨s1, hD⟩
      obtain ⟨z, rfl, ez⟩ := ivs_of hx
      refine ⟨rfl, _, rfl, z, rfl, _, hD, ?_, Same.chg s1 nD, ?_⟩
      · rw [List.length_map, List.length_take]
        exact Nat.lt_of_le_of_lt (Nat.min_le_right _ _) (small5000 hn)
      · unfold LsAt
        rw [upd_same, List.take_add_one, ez, List.map_append]
        rfl
    · rintro H1 ⟨s1, hD⟩
      rw [List.length_map, List.take_length] at hD
      exact q _ D s1 nD hD
--# is_froms
def spFroms : Sp := fun vs H Q _ => ∃ (a : Addr) (fr : List Int), vs = [.ref a] ∧ LsAt H a fr ∧ FrOk fr ∧ ∀ H' : Hp, Same H H' → Q (.bl true) H'
theorem bl_of {b : Bool} (h : b = true) : V.bl b = V.bl true := by rw [h]
theorem all_true : ∀ n : Nat, (List.replicate n true).all id = true
  | 0 => rfl
  | n + 1 => by
    rw [List.replicate_succ]
    simp
theorem sc_is_froms : FnScope ["value", "place", "source"] ["value"] (defScope s_is_froms) := ⟨rfl, rfl, rfl, by decide +kernel, rfl, by decide +kernel, by decide +kernel⟩
theorem c_is_froms {P : Program} {w : World} {K : PySem.W.Frag} {mg : Str → Option Value} {base : Heap} (T : Tx K mg) : C8.Cal P w K mg base 3 "is_froms" (spFroms) [] := by
  refine calD T.F_is_froms T.g_is_froms (fun _ _ _ _ _ _ us hl => match us, hl with | [_], _ => rfl) sc_is_froms (fun vs H Q E h => ?_) (fun cdv A outer s H vs Q E hr h => ?_)
  · obtain ⟨a, fr, rfl, _⟩ := h
    rfl
  · obtain ⟨a, fr, rfl, ha, fo, q⟩ := h
    refine ⟨_, (pss_cons (ps_if (PW.pt (pw_or (pt_not (pt_val (pe_callB call_isi (by rfl) T.f_isinstance (by decide +kernel) (pa_cons (pv 0) (pa_cons (pe_bltn (v := .ty "list") (by rfl) T.f_list (by decide +kernel) rfl) pa_nil))))) (pw_or1 (pt_not (pt_chain op_le op_le (pe_glob (v := .int 2) rfl (T.g_FEWEST_TONGUES).choose_spec ⟨_, rfl⟩) (pe_op op_add (pe_callB call_len_seq (by rfl) T.f_len (by decide +kernel) (pa_cons (pv 0) pa_nil)) pe_int) (pe_glob (v := .int 8) rfl (T.g_MOST_TONGUES).choose_spec ⟨_, rfl⟩))))))
      (pss_one (ps_ret pe_bl))
      pss_nil)
    (pss_one (ps_ret (pe_callB (cr_all rfl) (by rfl) T.f_all (by decide +kernel) (pa_cons (pe_lc (own := [("place", 1), ("source", 2)]) (g := gTup K 2 (gCons (gName 1) (gCons (gName 2) (gNil)))) (tt := tYes) (by rfl) sc_is_froms.nd (pi_enum (by rfl) T.f_enumerate (pa_cons (pv 0) pa_nil)) (blkOk_by (own := [("place", 1), ("source", 2)]) (N := ["value", "place", "source"]) (sc := defScope s_is_froms) (by decide +kernel)) (fun _ _ _ _ _ => (pg_tup rfl (pgs_cons (pg_name (i := 1) sc_is_froms.nd rfl (Or.inl rfl) (Or.inr rfl)) (pgs_cons (pg_name (i := 2) sc_is_froms.nd rfl (Or.inl rfl) (Or.inr rfl)) pgs_nil)))) (fun _ _ _ _ _ => pts_nil) (fun _ _ _ _ _ => (pe_and (C8.pe_c (c_is_count T) hr (by decide) rfl (pa_cons (pv 2) pa_nil)) (pe_one (pe_cmpR op_le (pv 2) (pv 1) (nomark _)))))) pa_nil))))), ?_⟩
    have lo := fo.lo
    have hi := fo.hi
    refine ⟨_, rfl, _, _, _, _, true, rfl, .ty _, .base (.lst ha), is_ty (by decide +kernel), true, rfl, iteF ?_⟩
    refine ⟨_, rfl, a, _, rfl, .inl (SqL.of ha), _, _, rfl, rfl, _, _, rfl, rfl, true, bl_of (decide_eq_true ?_), iteT ⟨_, _, rfl, rfl, true, bl_of (decide_eq_true ?_), iteF ?_⟩⟩
    · rw [List.length_map]
      omega
    · rw [List.length_map]
      omega
    · refine ⟨_, rfl, a, _, rfl, SqL.of ha, fun D nD => ?_⟩
      refine lc_it (walk_enum (K := K) (a := a) (xs := fr.map V.int)) (fun i H1 => Same H H1 ∧ H1 D = some (.lst ((List.replicate i true).map V.bl))) ⟨same_upd nD, upd_same⟩ (fun i H1 _ p => SqL.of (ha.same p.1)) ?_ ?_
      · rintro i v H1 H2 hi2 ⟨s1, hD⟩ ⟨U, x, y, rfl, nU, rfl, e1, e2⟩
        cases (Option.some.inj e1)
        obtain ⟨z, rfl, ez⟩ := ivs_of e2
        obtain ⟨z0, z1⟩ := fo.each i z ez
        have sU : Same H1 (upd H1 U (.tup [V.int (i : Nat), V.int z])) := same_upd nU
        have nDU : D ≠ U := ne_of_none hD nU
        refine ⟨U, _, rfl, .inl (.inl upd_same), rfl, _, _, rfl, _, _, rfl, rfl, rfl, ?_⟩
        refine ⟨_, rfl, z, rfl, true, bl_of (decide_eq_true z0), iteT ⟨_, rfl, _, rfl, z, _, rfl, rfl, _, sU _ _ hD, ?_, Same.chg (s1.trans sU) nD, ?_⟩⟩
        · rw [List.length_map, List.length_replicate]
          rw [List.length_map] at hi2
          exact small1000 (by omega)
        · rw [upd_same, List.replicate_succ', List.map_append]
          show some (HO.lst (_ ++ [V.bl (decide (z ≤ (i : Int)))])) = _
          rw [decide_eq_true z1]
          rfl
      · rintro H1 ⟨s1, hD⟩
        exact ⟨D, _, rfl, SqL.of hD, qt (all_true _) (q _ s1)⟩
--# is_row
def spRow : Sp := fun vs H Q _ => ∃ (a : Addr) (fr : List Int) (p : Addr) (row : List Cell), vs = [.ref a, .ref p] ∧ LsAt H a fr ∧ FrOk fr ∧ RowAt H p row ∧ RowOk fr row ∧ ∀ H' : Hp, Same H H' → Q (.bl true) H'
theorem cut1 (xs : List V) : cutV xs (some 1) none = xs.drop 1 := by
  unfold cutV
  rw [show HT.sIx xs.length 0 (some 1) = min 1 xs.length from HT.sIx_nat xs.length 0 1, HT.sIx_none]
  cases xs with
  | nil => rfl
  | cons x r =>
    rw [show min 1 (x :: r).length = 1 by
      rw [List.length_cons]
      omega]
    show (List.take ((x :: r).length - 1) r) = r
    rw [List.length_cons, Nat.add_sub_cancel]
    exact List.take_length
theorem sc_is_row : FnScope ["froms", "value", "cell"] ["froms", "value"] (defScope s_is_row) := ⟨rfl, rfl, rfl, by decide +kernel, rfl, by decide +kernel, by decide +kernel⟩
theorem c_is_row {P : Program} {w : World} {K : PySem.W.Frag} {mg : Str → Option Value} {base : Heap} (T : Tx K mg) : C8.Cal P w K mg base 4 "is_row" (spRow) [] := by
  refine calD T.F_is_row T.g_is_row (fun _ _ _ _ _ _ us hl => match us, hl with | [_, _], _ => rfl) sc_is_row (fun vs H Q E h => ?_) (fun cdv A outer s H vs Q E hr h => ?_)
  · obtain ⟨a, fr, p, row, rfl, _⟩ := h
    rfl
  · obtain ⟨a, fr, p, row, rfl, ha, fo, hp, ro, q⟩ := h
    refine ⟨_, (pss_cons (ps_if (PW.pt (pw_or (pt_not (pt_val (pe_callB call_isi (by rfl) T.f_isinstance (by decide +kernel) (pa_cons (pv 1) (pa_cons (pe_bltn (v := .ty "list") (by rfl) T.f_list (by decide +kernel) rfl) pa_nil))))) (pw_or1 (pt_cmpR op_ne (pe_callB call_len_seq (by rfl) T.f_len (by decide +kernel) (pa_cons (pv 1) pa_nil)) (pe_op op_add (pe_callB call_len_seq (by rfl) T.f_len (by decide +kernel) (pa_cons (pv 0) pa_nil)) pe_int) (nomark _)))))
      (pss_one (ps_ret pe_bl))
      pss_nil)
    (pss_one (ps_ret (pe_and (C8.pe_c (c_is_source_cell T) hr (by decide) rfl (pa_cons (pe_ix ix_list (pv 1) pe_int (fun _ _ => rfl)) pa_nil)) (pe_one (pe_callB (cr_all rfl) (by rfl) T.f_all (by decide +kernel) (pa_cons (pe_lc (own := [("cell", 2)]) (g := gName 2) (tt := tYes) (by rfl) sc_is_row.nd (pi_list (pe_slice sl_list (pv 1) (po_some pe_int) po_none)) (blkOk_by (own := [("cell", 2)]) (N := ["froms", "value", "cell"]) (sc := defScope s_is_row) (by decide +kernel)) (fun _ _ _ _ _ => (pg_name (i := 2) sc_is_row.nd rfl (Or.inl rfl))) (fun _ _ _ _ _ => pts_nil) (fun _ _ _ _ _ => (C8.pe_c (c_is_other_cell T) hr (by decide) rfl (pa_cons (pv 2) pa_nil)))) pa_nil))))))), ?_⟩
    have hi := fo.hi
    have hp' := hp
    obtain ⟨vs, hv, hc⟩ := hp
    refine ⟨_, rfl, _, _, _, _, true, rfl, .ty _, .base (.lst hv), is_ty (by decide +kernel), true, rfl, iteF ?_⟩
    refine ⟨_, rfl, p, _, rfl, .inl (SqL.of hv), _, rfl, a, _, rfl, .inl (SqL.of ha), _, _, rfl, rfl, rfl, false, ?_, iteF ?_⟩
    · have e : (vs.length : Int) = ((fr.map V.int).length : Int) + 1 := by
        rw [hc.len, ro.len, List.length_map]
        omega
      rw [e]
      exact congrArg V.bl (by simp)
    obtain ⟨n0, e0, h0⟩ := ro.src
    obtain ⟨v0, ev, pc, rfl, cv⟩ := hc.each 0 _ e0
    refine ⟨_, rfl, p, _, _, _, rfl, rfl, SqL.of hv, atI_nat (j := 0) ev, pc, n0, rfl, cv, h0, true, rfl, iteT ?_⟩
    refine ⟨_, rfl, 1, rfl, p, _, rfl, SqL.of hv, fun c nc => ?_⟩
    have sc : Same H (upd H c (.lst (cutV vs (some 1) none))) := same_upd nc
    refine ⟨c, rfl, ⟨_, SqL.of upd_same⟩, fun D nD => ?_⟩
    rw [cut1] at sc nD ⊢
    have hcc : (upd H c (.lst (vs.drop 1))) c = some (.lst (vs.drop 1)) := upd_same
    have nDH : H D = none := sc.free nD
    have ncD : c ≠ D := ne_of_none hcc nD
    refine lc_list (K := K) (a := c) (xs := vs.drop 1) (fun i H1 => Same H H1 ∧ H1 c = some (.lst (vs.drop 1)) ∧ H1 D = some (.lst ((List.replicate i true).map V.bl))) ⟨sc.trans (same_upd nD), by rw [upd_ne ncD]; exact hcc, upd_same⟩ (fun i H1 _ z => SqL.of z.2.1) ?_ ?_
    · rintro i x H1 hx ⟨s1, h1, hD⟩
      rw [List.getElem?_drop, Nat.add_comm] at hx
      have hlt : i + 1 < row.length := by
        rw [← hc.len]
        exact (List.getElem?_eq_some_iff.mp hx).1
      obtain ⟨x', ex', cx⟩ := hc.each (i + 1) _ (List.getElem?_eq_getElem hlt)
      cases (Option.some.inj (hx.symm.trans ex'))
      refine ⟨rfl, _, rfl, x, _, rfl, cx.same s1, ro.each i _ (List.getElem?_eq_getElem hlt), _, hD, ?_, Same.chg s1 nDH, ?_, ?_⟩
      · rw [List.length_map, List.length_replicate]
        rw [ro.len] at hlt
        exact small1000 (by omega)
      · rw [upd_ne ncD]
        exact h1
      · rw [upd_same, List.replicate_succ', List.map_append]
        rfl
    · rintro H1 ⟨s1, h1, hD⟩
      exact ⟨D, _, rfl, SqL.of hD, qt (all_true _) (q _ s1)⟩
--# Fresh.shows
/-- what a question of an answer about a row is asked with -/
structure Asked (H : Hp) (a : Addr) (fr : List Int) (p : Addr) (row : List Cell) (t : Nat) : Prop where
  ha : LsAt H a fr
  fo : FrOk fr
  hp : RowAt H p row
  ro : RowOk fr row
  ht : t ≤ fr.length
theorem Asked.same {H H' : Hp} (s : Same H H') {a : Addr} {fr : List Int} {p : Addr} {row : List Cell} {t : Nat} (h : Asked H a fr p row t) : Asked H' a fr p row t := ⟨h.ha.same s, h.fo, h.hp.same s, h.ro, h.ht⟩
def spFreshShows : Sp := fun vs H Q _ => ∃ (y a : Addr) (fr : List Int) (p : Addr) (row : List Cell) (t : Nat), vs = [.ref y, .ref a, .ref p, .int (t : Int)] ∧ Asked H a fr p row t ∧ ∀ H' : Hp, Same H H' → Q (.bl (decide (chain fr row t = none))) H'
theorem sc_Fresh_shows : FnScope ["self", "froms", "row", "tongue"] ["self", "froms", "row", "tongue"] (defScope s_Fresh_shows) := ⟨rfl, rfl, rfl, by decide +kernel, rfl, by decide +kernel, by decide +kernel⟩
theorem c_Fresh_shows {P : Program} {w : World} {K : PySem.W.Frag} {mg : Str → Option Value} {base : Heap} (T : Tx K mg) : C8.Met P w K mg base 4 (He.ga K "Fresh") "shows" (spFreshShows) [] := by
  refine metD T.F_Fresh_shows T.k_Fresh T.m_Fresh_shows (fun _ _ _ _ _ _ us hl => match us, hl with | [_, _, _, _], _ => rfl) sc_Fresh_shows (fun vs H Q E h => ?_) (fun cdv A outer s H vs Q E hr h => ?_)
  · obtain ⟨y, a, fr, p, row, t, rfl, _⟩ := h
    rfl
  · obtain ⟨y, a, fr, p, row, t, rfl, hA, q⟩ := h
    refine ⟨_, (pss_one (ps_ret (pe_cmpR op_isN (C8.pe_c (c_chain_up T) hr (by decide) rfl (pa_cons (pv 1) (pa_cons (pv 2) (pa_cons (pv 3) pa_nil)))) pe_non (nomark _)))), ?_⟩
    refine ⟨_, rfl, _, rfl, _, rfl, a, fr, p, row, t, rfl, hA.ha, hA.fo, hA.hp, hA.ro, hA.ht, fun e H1 s1 => ?_, fun c e H1 l s1 nl hl => ?_⟩
    · exact ⟨rfl, qt (by rw [e]; rfl) (q H1 s1)⟩
    · refine ⟨rfl, qt ?_ (q H1 s1)⟩
      rw [e, decide_eq_false (by intro z; cases z), decide_eq_false (by intro z; cases z)]
--# Old.__init__
def cfs (l : Addr) : List (Str × V) := [("chain", .ref l)]
def spOldInit (C : Addr) : Sp := fun vs H Q _ => ∃ (y dy a : Addr) (ns : List Int), vs = [.ref y, .ref a] ∧ H y = some (.ins C dy []) ∧ LsAt H a ns ∧ ns.length ≤ 5000 ∧
  ∀ (H' : Hp) (l : Addr), H l = none → LsAt H' l ns → H' y = some (.ins C dy (cfs l)) → (∀ b o, H b = some o → b ≠ y → H' b = some o) → Q .non H'
theorem sc_Old_init : FnScope ["self", "chain"] ["self", "chain"] (defScope s_Old_init) := ⟨rfl, rfl, rfl, by decide +kernel, rfl, by decide +kernel, by decide +kernel⟩
theorem c_Old_init {P : Program} {w : World} {K : PySem.W.Frag} {mg : Str → Option Value} {base : Heap} (T : Tx K mg) : C8.Mak P w K mg base 3 "Old" (He.ga K "Old") (spOldInit (He.ga K "Old")) [] := by
  refine makD T.F_Old_init T.i_Old T.g_Old (fun _ _ _ _ _ _ us hl => match us, hl with | [_, _], _ => rfl) sc_Old_init (fun vs H Q E h => ?_) (fun cdv A outer s H vs Q E hr h => ?_)
  · obtain ⟨y, dy, a, ns, rfl, _⟩ := h
    rfl
  · obtain ⟨y, dy, a, ns, rfl, hy, ha, hn, q⟩ := h
    refine ⟨_, (pss_one (ps_fld (pv 0) (C8.pe_c (c_copied T) hr (by decide) rfl (pa_cons (pv 1) pa_nil)) rfl)), ?_⟩
    refine ⟨_, rfl, a, ns, rfl, ha, hn, fun H1 l s1 nl hl => ?_⟩
    have ny : y ≠ l := ne_of_none hy nl
    refine ⟨_, rfl, y, _, dy, [], rfl, s1 _ _ hy, T.k_Old, T.n_Old_chain, by decide, ?_⟩
    refine q _ l nl ?_ upd_same fun b o e hb => ?_
    · unfold LsAt
      rw [upd_ne ny.symm]
      exact hl
    · rw [upd_ne hb]
      exact s1 _ _ e
--# Old.shows
/-- an Old at y, its chain the list at l -/
structure OldAt (C : Addr) (H : Hp) (y l : Addr) (ns : List Int) : Prop where
  ob : ∃ dy, H y = some (.ins C dy (cfs l))
  ls : LsAt H l ns
theorem OldAt.same {C : Addr} {H H' : Hp} (s : Same H H') {y l : Addr} {ns : List Int} (h : OldAt C H y l ns) : OldAt C H' y l ns := ⟨let ⟨d, e⟩ := h.ob; ⟨d, s _ _ e⟩, h.ls.same s⟩
def spOldShows (C : Addr) : Sp := fun vs H Q _ => ∃ (y a : Addr) (fr : List Int) (p : Addr) (row : List Cell) (t : Nat) (l : Addr) (ns : List Int), vs = [.ref y, .ref a, .ref p, .int (t : Int)] ∧ Asked H a fr p row t ∧ OldAt C H y l ns ∧ ns.length ≤ 5000 ∧
  ∀ H' : Hp, Same H H' → Q (.bl (decide (chain fr row t = some ns))) H'
theorem cfs_at (l : Addr) : (cfs l).lookup ("chain" : Str) = some (.ref l) := by
  unfold cfs
  simp [List.lookup]
theorem sc_Old_shows : FnScope ["self", "froms", "row", "tongue", "chain", "at"] ["self", "froms", "row", "tongue"] (defScope s_Old_shows) := ⟨rfl, rfl, rfl, by decide +kernel, rfl, by decide +kernel, by decide +kernel⟩
theorem c_Old_shows {P : Program} {w : World} {K : PySem.W.Frag} {mg : Str → Option Value} {base : Heap} (T : Tx K mg) : C8.Met P w K mg base 4 (He.ga K "Old") "shows" (spOldShows (He.ga K "Old")) [] := by
  refine metD T.F_Old_shows T.k_Old T.m_Old_shows (fun _ _ _ _ _ _ us hl => match us, hl with | [_, _, _, _], _ => rfl) sc_Old_shows (fun vs H Q E h => ?_) (fun cdv A outer s H vs Q E hr h => ?_)
  · obtain ⟨y, a, fr, p, row, t, l, ns, rfl, _⟩ := h
    rfl
  · obtain ⟨y, a, fr, p, row, t, l, ns, rfl, hA, hO, hn, q⟩ := h
    refine ⟨_, (pss_cons (ps_set (i := 4) sc_Old_shows.nd rfl (Or.inl rfl) (C8.pe_c (c_chain_up T) hr (by decide) rfl (pa_cons (pv 1) (pa_cons (pv 2) (pa_cons (pv 3) pa_nil)))))
    (pss_cons (ps_if (PW.pt (pw_or (pt_cmpR op_isN (pv 4) pe_non (nomark _)) (pw_or1 (pt_cmpR (op_neD hr.units) (pe_fld (pv 0) (by rfl)) (pv 4) (nomark _)))))
      (pss_one (ps_ret pe_bl))
      pss_nil)
    (pss_one (ps_ret (pe_callB (cr_all rfl) (by rfl) T.f_all (by decide +kernel) (pa_cons (pe_lc (own := [("at", 5)]) (g := gName 5) (tt := tYes) (by rfl) sc_Old_shows.nd (pi_list (pe_fld (pv 0) (by rfl))) (blkOk_by (own := [("at", 5)]) (N := ["self", "froms", "row", "tongue", "chain", "at"]) (sc := defScope s_Old_shows) (by decide +kernel)) (fun _ _ _ _ _ => (pg_name (i := 5) sc_Old_shows.nd rfl (Or.inl rfl))) (fun _ _ _ _ _ => pts_nil) (fun _ _ _ _ _ => (C8.pe_c (c_is_number T) hr (by decide) rfl (pa_cons (pv 5) pa_nil)))) pa_nil)))))), ?_⟩
    obtain ⟨dy, ob⟩ := hO.ob
    refine ⟨_, rfl, _, rfl, _, rfl, a, fr, p, row, t, rfl, hA.ha, hA.fo, hA.hp, hA.ro, hA.ht, fun e H1 s1 => ?_, fun c e H1 k s1 nk hk => ?_⟩
    · refine ⟨_, rfl, rfl, true, bl_of (decide_eq_true rfl), iteT (qt ?_ (q H1 s1))⟩
      rw [e, decide_eq_false (by intro z; cases z)]
    · refine ⟨_, rfl, rfl, false, by rw [decide_eq_false (by intro z; cases z)], iteF ?_⟩
      refine ⟨_, rfl, y, _, dy, _, _, rfl, s1 _ _ ob, T.k_Old, T.n_Old_chain, cfs_at l, _, rfl, _, _, dp_ints (hO.ls.same s1), dp_ints hk, shaped_ints _, shaped_ints _, _, rfl, ?_⟩
      rw [eqv_ints]
      by_cases ec : ns = c
      · subst ec
        rw [decide_eq_true rfl]
        refine iteF ?_
        refine ⟨_, rfl, y, _, dy, _, _, rfl, s1 _ _ ob, T.k_Old, T.n_Old_chain, cfs_at l, l, rfl, ⟨_, SqL.of (hO.ls.same s1)⟩, fun D nD => ?_⟩
        refine lc_list (K := K) (a := l) (xs := ns.map V.int) (fun i H2 => Same H1 H2 ∧ H2 D = some (.lst ((List.replicate i true).map V.bl))) ⟨same_upd nD, upd_same⟩ (fun i H2 _ z => SqL.of ((hO.ls.same s1).same z.1)) ?_ ?_
        · rintro i x H2 hx ⟨s2, hD⟩
          obtain ⟨z, rfl, ez⟩ := ivs_of hx
          refine ⟨rfl, _, rfl, _, _, true, false, rfl, .base (.int z), is_ty (by decide +kernel), is_ty (by decide +kernel), _, hD, ?_, Same.chg s2 nD, ?_⟩
          · rw [List.length_map, List.length_replicate]
            have := (List.getElem?_eq_some_iff.mp ez).1
            exact small5000 (by omega)
          · rw [upd_same, List.replicate_succ', List.map_append]
            rfl
        · rintro H2 ⟨s2, hD⟩
          refine ⟨D, _, rfl, SqL.of hD, qt ?_ (q _ (s1.trans s2))⟩
          rw [all_true, e, decide_eq_true rfl]
      · rw [decide_eq_false ec]
        refine iteT (qt ?_ (q H1 s1))
        rw [e, decide_eq_false fun z => ec (Option.some.inj z).symm]
--# told
def spTold (CF CO : Addr) : Sp := fun vs H Q _ => ∃ (a : Addr) (fr : List Int) (p : Addr) (row : List Cell) (t : Nat), vs = [.ref a, .ref p, .int (t : Int)] ∧ Asked H a fr p row t ∧
  (chain fr row t = none → ∀ (H' : Hp) (y dy : Addr), Same H H' → H y = none → H' y = some (.ins CF dy []) → Q (.ref y) H') ∧
  (∀ c, chain fr row t = some c → ∀ (H' : Hp) (y l : Addr), Same H H' → H y = none → H l = none → y ≠ l → OldAt CO H' y l c → Q (.ref y) H')
theorem sc_told : FnScope ["froms", "row", "tongue", "chain"] ["froms", "row", "tongue"] (defScope s_told) := ⟨rfl, rfl, rfl, by decide +kernel, rfl, by decide +kernel, by decide +kernel⟩
theorem c_told {P : Program} {w : World} {K : PySem.W.Frag} {mg : Str → Option Value} {base : Heap} (T : Tx K mg) : C8.Cal P w K mg base 5 "told" (spTold (He.ga K "Fresh") (He.ga K "Old")) [] := by
  refine calD T.F_told T.g_told (fun _ _ _ _ _ _ us hl => match us, hl with | [_, _, _], _ => rfl) sc_told (fun vs H Q E h => ?_) (fun cdv A outer s H vs Q E hr h => ?_)
  · obtain ⟨a, fr, p, row, t, rfl, _⟩ := h
    rfl
  · obtain ⟨a, fr, p, row, t, rfl, hA, q0, q1⟩ := h
    refine ⟨_, (pss_cons (ps_if (pt_not (pt_val (C8.pe_c (c_is_froms T) hr (by decide) rfl (pa_cons (pv 0) pa_nil))))
      (pss_one ps_never)
      pss_nil)
    (pss_cons (ps_if (pt_not (pt_val (C8.pe_c (c_is_row T) hr (by decide) rfl (pa_cons (pv 0) (pa_cons (pv 1) pa_nil)))))
      (pss_one ps_never)
      pss_nil)
    (pss_cons (ps_if (pt_not (pt_val (C8.pe_c (c_is_tongue T) hr (by decide) rfl (pa_cons (pv 0) (pa_cons (pv 2) pa_nil)))))
      (pss_one ps_never)
      pss_nil)
    (pss_cons (ps_set (i := 3) sc_told.nd rfl (Or.inl rfl) (C8.pe_c (c_chain_up T) hr (by decide) rfl (pa_cons (pv 0) (pa_cons (pv 1) (pa_cons (pv 2) pa_nil)))))
    (pss_cons (ps_if (pt_cmpR op_isN (pv 3) pe_non (nomark _))
      (pss_one (ps_ret (pe_bare T.b_Fresh rfl T.g_Fresh)))
      pss_nil)
    (pss_one (ps_ret (C8.pe_mk (c_Old_init T) hr (by decide) rfl (pa_cons (pv 3) pa_nil))))))))), ?_⟩
    refine ⟨_, rfl, a, fr, rfl, hA.ha, hA.fo, fun H1 s1 => ⟨true, rfl, iteF ?_⟩⟩
    refine ⟨_, rfl, _, rfl, a, fr, p, row, rfl, hA.ha.same s1, hA.fo, hA.hp.same s1, hA.ro, fun H2 s2 => ⟨true, rfl, iteF ?_⟩⟩
    refine ⟨_, rfl, _, rfl, a, fr, (t : Int), rfl, (hA.ha.same s1).same s2, true, ?_, iteF ?_⟩
    · rw [decide_eq_true (by omega : (0 : Int) ≤ (t : Int)), decide_eq_true (by have := hA.ht; omega : (t : Int) ≤ (fr.length : Int))]
      rfl
    have s12 := s1.trans s2
    refine ⟨_, rfl, _, rfl, _, rfl, a, fr, p, row, t, rfl, hA.ha.same s12, hA.fo, hA.hp.same s12, hA.ro, hA.ht, fun e H3 s3 => ?_, fun c e H3 k s3 nk hk => ?_⟩
    · refine ⟨_, rfl, rfl, true, bl_of (decide_eq_true rfl), iteT fun y dy ny ndy hne => ?_⟩
      have s := s12.trans s3
      refine q0 e _ y dy (fun b o z => ?_) (s.free ny) upd_same
      rw [upd_ne (ne_of_none (s _ _ z) ny), upd_ne (ne_of_none (s _ _ z) ndy)]
      exact s _ _ z
    · refine ⟨_, rfl, rfl, false, by rw [decide_eq_false (by intro z; cases z)], iteF ?_⟩
      have s := s12.trans s3
      refine ⟨_, rfl, fun y dy ny ndy hne => ?_⟩
      have sN : Same H3 (upd (upd H3 dy (.own y)) y (.ins (He.ga K "Old") dy [])) := fun b o z => by
        rw [upd_ne (ne_of_none z ny), upd_ne (ne_of_none z ndy)]
        exact z
      have lc : c.length ≤ 5000 := by
        have := (chain_mem hA.fo t c hA.ht e).2.1
        have := hA.fo.hi
        have := hA.ht
        omega
      refine ⟨y, dy, k, c, rfl, upd_same, hk.same sN, lc, fun H4 l nl hl hy kp => ⟨rfl, ?_⟩⟩
      have nyl : y ≠ l := ne_of_none (H := upd (upd H3 dy (.own y)) y (.ins (He.ga K "Old") dy [])) upd_same nl
      refine q1 c e H4 y l (fun b o z => kp b o (sN _ _ (s _ _ z)) (ne_of_none (s _ _ z) ny)) (s.free ny) ((s.trans sN).free nl) nyl ⟨⟨dy, hy⟩, hl⟩

end PD

namespace PD
open PySem PySem.Spec PyProof.Rows L2

/-! Phrasedesk, part 4: what the law draws -/
--# _law_cell_at
def spCellAt (K : PySem.W.Frag) : Sp := fun vs H Q _ => ∃ (a : Addr) (ns : List Int) (k : Int), vs = [.ref a, .int k] ∧ SqL K H a (ns.map V.int) ∧ 0 ≤ k ∧ ∀ z : Int, Q (.int z) H
theorem sc_law_cell_at : FnScope ["_law_script", "_law_k"] ["_law_script", "_law_k"] (defScope s_law_cell_at) := ⟨rfl, rfl, rfl, by decide +kernel, rfl, by decide +kernel, by decide +kernel⟩
theorem c_law_cell_at {P : Program} {w : World} {K : PySem.W.Frag} {mg : Str → Option Value} {base : Heap} (T : Tx K mg) : C8.Cal P w K mg base 1 "_law_cell_at" (spCellAt K) [] := by
  refine calD T.F_law_cell_at T.g_law_cell_at (fun _ _ _ _ _ _ us hl => match us, hl with | [_, _], _ => rfl) sc_law_cell_at (fun vs H Q E h => ?_) (fun cdv A outer s H vs Q E hr h => ?_)
  · obtain ⟨a, ns, k, rfl, _⟩ := h
    rfl
  · obtain ⟨a, ns, k, rfl, ha, h0, q⟩ := h
    refine ⟨_, (pss_cons (ps_if (pt_cmpR op_lt (pv 1) (pe_callB call_len_seq (by rfl) T.f_len (by decide +kernel) (pa_cons (pv 0) pa_nil)) (nomark _))
      (pss_one (ps_ret (pe_ix ix_list (pv 0) (pv 1) (fun _ _ => rfl))))
      pss_nil)
    (pss_one (ps_ret pe_int))), ?_⟩
    refine ⟨_, rfl, _, rfl, a, _, rfl, .inl ha, _, _, rfl, rfl, decide (k < ((ns.map V.int).length : Int)), rfl, ?_⟩
    by_cases h : k < ((ns.map V.int).length : Int)
    · rw [decide_eq_true h]
      have hl : k.toNat < ns.length := by
        rw [List.length_map] at h
        omega
      exact iteT ⟨_, rfl, _, rfl, a, _, _, _, rfl, rfl, ha, at_of (j := k.toNat) (by omega) (ivs (List.getElem?_eq_getElem hl)), q _⟩
    · rw [decide_eq_false h]
      exact iteF (q 0)
--# _law_draw
def prims : List Int := [1000003, 1000033, 1000037, 1000039, 1000081, 1000099, 1000117, 1000121, 1000133, 1000151, 1000159, 1000171, 1000183, 1000187, 1000193, 1000199]
theorem prims_at : ∀ j : Nat, j < 16 → ∃ p : Int, prims[j]? = some p ∧ p ≠ 0 := by
  intro j hj
  have h : ∀ j : _root_.Fin 16, ∃ p : Int, prims[j.val]? = some p ∧ p ≠ 0 := by
    intro j
    have e : j.val < prims.length := j.isLt
    refine ⟨prims[j.val], List.getElem?_eq_getElem e, ?_⟩
    revert j
    decide
  exact h ⟨j, hj⟩
theorem fmod_lo {x m : Int} (h : 0 < m) : 0 ≤ x.fmod m := by
  rw [Int.fmod_eq_emod_of_nonneg _ (by omega)]
  exact Int.emod_nonneg _ (by omega)
theorem fmod_hi {x m : Int} (h : 0 < m) : x.fmod m < m := by
  rw [Int.fmod_eq_emod_of_nonneg _ (by omega)]
  exact Int.emod_lt_of_pos _ h
def spDraw : Sp := fun vs H Q _ => ∃ (c k m : Int), vs = [.int c, .int k, .int m] ∧ 0 < m ∧ ∀ (H' : Hp) (z : Int), Same H H' → 0 ≤ z → z < m → Q (.int z) H'
theorem sc_law_draw : FnScope ["_law_cell", "_law_k", "_law_most", "_law_primes"] ["_law_cell", "_law_k", "_law_most"] (defScope s_law_draw) := ⟨rfl, rfl, rfl, by decide +kernel, rfl, by decide +kernel, by decide +kernel⟩
theorem c_law_draw {P : Program} {w : World} {K : PySem.W.Frag} {mg : Str → Option Value} {base : Heap} (T : Tx K mg) : C8.Cal P w K mg base 1 "_law_draw" (spDraw) [] := by
  refine calD T.F_law_draw T.g_law_draw (fun _ _ _ _ _ _ us hl => match us, hl with | [_, _, _], _ => rfl) sc_law_draw (fun vs H Q E h => ?_) (fun cdv A outer s H vs Q E hr h => ?_)
  · obtain ⟨c, k, m, rfl, _⟩ := h
    rfl
  · obtain ⟨c, k, m, rfl, h0, q⟩ := h
    refine ⟨_, (pss_cons (ps_set (i := 3) sc_law_draw.nd rfl (Or.inl rfl) (pe_tup (pa_cons pe_int (pa_cons pe_int (pa_cons pe_int (pa_cons pe_int (pa_cons pe_int (pa_cons pe_int (pa_cons pe_int (pa_cons pe_int (pa_cons pe_int (pa_cons pe_int (pa_cons pe_int (pa_cons pe_int (pa_cons pe_int (pa_cons pe_int (pa_cons pe_int (pa_cons pe_int pa_nil))))))))))))))))))
    (pss_one (ps_ret (pe_op op_modN (pe_op op_modN (pe_op op_add (pe_op op_mul (pv 0) pe_int) (pe_op op_mul (pv 1) pe_int)) (pe_ix ix_tup (pv 3) (pe_op op_modN (pv 1) pe_int) (fun _ _ => rfl))) (pv 2))))), ?_⟩
    refine ⟨(by show 16 ≤ sizeLine; decide), fun p np => ?_⟩
    have hk0 : 0 ≤ k.fmod 16 := fmod_lo (by decide)
    have hk1 : k.fmod 16 < 16 := fmod_hi (by decide)
    obtain ⟨y, ey, ny⟩ := prims_at (k.fmod 16).toNat (by omega)
    refine ⟨_, rfl, _, _, rfl, rfl, .inr ⟨by decide, by decide⟩, _, rfl, _, _, rfl, rfl, .inr ⟨by decide, by decide⟩, _, _, rfl, rfl, _, rfl, _, rfl, _, _, rfl, rfl, (show (16 : Int) ≠ 0 by decide), p, prims.map V.int, _, V.int y, rfl, rfl, SqT.of upd_same, at_of (j := (k.fmod 16).toNat) (by show k.fmod 16 = _; omega) (ivs ey), _, _, rfl, rfl, ny, _, rfl, _, _, rfl, rfl, by omega, ?_⟩
    exact q _ _ (same_upd np) (fmod_lo h0) (fmod_hi h0)
--# _law_number
def spNumber : Sp := fun vs H Q _ => ∃ (c k m : Int), vs = [.int c, .int k, .int m] ∧ 0 ≤ k ∧ k ≤ 1000 ∧ 0 < m ∧ m ≤ 100000000000000000000 ∧ ∀ (H' : Hp) (z : Int), Same H H' → 0 ≤ z → z < m → Q (.int z) H'
def sevens : List Int := [1, 7, 49, 343, 2401]
theorem sevens_at : ∀ j : Nat, j < 5 → ∃ p : Int, sevens[j]? = some p ∧ 1 ≤ p ∧ p ≤ 2401 := by
  intro j hj
  have h : ∀ j : _root_.Fin 5, ∃ p : Int, sevens[j.val]? = some p ∧ 1 ≤ p ∧ p ≤ 2401 := by
    intro j
    have e : j.val < sevens.length := j.isLt
    refine ⟨sevens[j.val], List.getElem?_eq_getElem e, ?_⟩
    revert j
    decide
  exact h ⟨j, hj⟩
theorem e18 : (10 : Int) ^ ((18 : Int).toNat) = 1000000000000000000 := by decide
theorem mul_big {c k : Int} (h1 : -1000000000000000000 ≤ c) (h2 : c < 1000811284336359577647248616306026718125307353262274591) (k0 : 0 ≤ k) (k1 : k ≤ 1000) : CMulW (c + 977 * k) (c + 31 * k + 5) := by
  have p : (2 : Nat) ^ 200 = 1606938044258990275541962092341162602522202993782792835301376 := by decide
  refine wide_mul (a := 200) (b := 200) ?_ ?_ (by decide) (by decide) (by decide)
  · rw [p]
    omega
  · rw [p]
    omega
theorem fdiv_in {x d m : Int} (hd : 1 ≤ d) (hm : 0 < m) (h0 : 0 ≤ x) (h1 : x < d * m) : 0 ≤ x.fdiv d ∧ x.fdiv d < m := by
  rw [Int.fdiv_eq_ediv_of_nonneg _ (by omega)]
  exact ⟨Int.ediv_nonneg h0 (by omega), Int.ediv_lt_of_lt_mul (by omega) (by rw [Int.mul_comm]; exact h1)⟩
theorem sc_law_number : FnScope ["_law_cell", "_law_k", "_law_limit", "_law_d"] ["_law_cell", "_law_k", "_law_limit"] (defScope s_law_number) := ⟨rfl, rfl, rfl, by decide +kernel, rfl, by decide +kernel, by decide +kernel⟩
theorem c_law_number {P : Program} {w : World} {K : PySem.W.Frag} {mg : Str → Option Value} {base : Heap} (T : Tx K mg) : C8.Cal P w K mg base 2 "_law_number" (spNumber) [] := by
  refine calD T.F_law_number T.g_law_number (fun _ _ _ _ _ _ us hl => match us, hl with | [_, _, _], _ => rfl) sc_law_number (fun vs H Q E h => ?_) (fun cdv A outer s H vs Q E hr h => ?_)
  · obtain ⟨c, k, m, rfl, _⟩ := h
    rfl
  · obtain ⟨c, k, m, rfl, k0, k1, m0, m1, q⟩ := h
    refine ⟨_, (pss_cons (ps_if (pt_cmpR op_ge (pv 0) (pe_op op_pow pe_int pe_int) (nomark _))
      (pss_cons (ps_set (i := 3) sc_law_number.nd rfl (Or.inl rfl) (pe_ix ix_tup (pe_tup (pa_cons pe_int (pa_cons pe_int (pa_cons pe_int (pa_cons pe_int (pa_cons pe_int pa_nil)))))) (pe_op op_modN (pv 1) pe_int) (fun _ _ => rfl)))
      (pss_one (ps_ret (pe_op op_fdivN (pe_op op_modN (pe_op op_sub (pv 0) (pe_op op_pow pe_int pe_int)) (pe_op op_mul (pv 3) (pv 2))) (pv 3)))))
      pss_nil)
    (pss_cons (ps_if (pt_cmpR op_lt (pv 0) (pe_un un_neg (pe_op op_pow pe_int pe_int)) (nomark _))
      (pss_one (ps_set (i := 0) sc_law_number.nd rfl (Or.inl rfl) (pe_op op_modN (pv 0) pe_int)))
      pss_nil)
    (pss_one (ps_ret (pe_op op_modN (C8.pe_c (c_law_draw T) hr (by decide) rfl (pa_cons (pe_op op_mulW (pe_op op_add (pv 0) (pe_op op_mul pe_int (pv 1))) (pe_op op_add (pe_op op_add (pv 0) (pe_op op_mul pe_int (pv 1))) pe_int)) (pa_cons (pe_op op_add (pe_op op_modN (pv 1) pe_int) pe_int) (pa_cons pe_int pa_nil)))) (pv 2)))))), ?_⟩
    refine ⟨_, rfl, _, _, rfl, rfl, ⟨by decide, by decide, by decide⟩, _, _, rfl, rfl, decide ((10 : Int) ^ ((18 : Int).toNat) ≤ c), rfl, ?_⟩
    rw [e18]
    by_cases h : 1000000000000000000 ≤ c
    · rw [decide_eq_true h]
      refine iteT ⟨(by show 5 ≤ sizeLine; decide), fun p np => ?_⟩
      have hk0 : 0 ≤ k.fmod 5 := fmod_lo (by decide)
      have hk1 : k.fmod 5 < 5 := fmod_hi (by decide)
      obtain ⟨d, ed, d0, d1⟩ := sevens_at (k.fmod 5).toNat (by omega)
      refine ⟨_, rfl, _, _, rfl, rfl, (show (5 : Int) ≠ 0 by decide), p, sevens.map V.int, _, V.int d, rfl, rfl, SqT.of upd_same, at_of (j := (k.fmod 5).toNat) (by show k.fmod 5 = _; omega) (ivs ed), ?_⟩
      have dm : 0 < d * m := Int.mul_pos (by omega) m0
      refine ⟨_, rfl, _, _, rfl, rfl, ⟨by decide, by decide, by decide⟩, _, _, rfl, rfl, _, rfl, _, rfl, _, _, rfl, rfl, .inl ⟨by omega, by omega⟩, _, _, rfl, rfl, by omega, _, rfl, _, _, rfl, rfl, ⟨by omega, by omega⟩, ?_⟩
      obtain ⟨z0, z1⟩ := fdiv_in (x := (c - (10 : Int) ^ ((18 : Int).toNat)).fmod (d * m)) d0 m0 (fmod_lo dm) (fmod_hi dm)
      exact q _ _ (same_upd np) z0 z1
    · rw [decide_eq_false h]
      refine iteF ⟨_, rfl, _, _, rfl, rfl, ⟨by decide, by decide, by decide⟩, _, rfl, _, _, rfl, rfl, decide (c < -((10 : Int) ^ ((18 : Int).toNat))), rfl, ?_⟩
      rw [e18]
      have go : ∀ c' : Int, -1000000000000000000 ≤ c' → c' < 1000811284336359577647248616306026718125307353262274591 → CMulW (c' + 977 * k) (c' + 31 * k + 5) := fun c' h1 h2 => mul_big h1 h2 k0 k1
      have fin : ∀ (z : Int) (H' : Hp), Same H H' → Q (.int (z.fmod m)) H' := fun z H' s => q H' _ s (fmod_lo m0) (fmod_hi m0)
      by_cases h2 : c < -1000000000000000000
      · rw [decide_eq_true h2]
        refine iteT ⟨_, rfl, _, _, rfl, rfl, (show (1000811284336359577647248616306026718125307353262274591 : Int) ≠ 0 by decide), ?_⟩
        have b0 : 0 ≤ c.fmod 1000811284336359577647248616306026718125307353262274591 := fmod_lo (by decide)
        have b1 : c.fmod 1000811284336359577647248616306026718125307353262274591 < 1000811284336359577647248616306026718125307353262274591 := fmod_hi (by decide)
        refine ⟨_, rfl, _, rfl, _, _, rfl, rfl, .inl ⟨by decide, by decide⟩, _, _, rfl, rfl, _, rfl, _, rfl, _, _, rfl, rfl, .inl ⟨by decide, by decide⟩, _, _, rfl, rfl, _, _, rfl, rfl, _, _, rfl, rfl, go _ (by omega) b1, _, rfl, _, _, rfl, rfl, (show (9 : Int) ≠ 0 by decide), _, _, rfl, rfl, _, _, _, rfl, by decide, fun H1 z s1 z0 z1 => ?_⟩
        exact ⟨_, rfl, _, _, rfl, rfl, by omega, fin z H1 s1⟩
      · rw [decide_eq_false h2]
        refine iteF ?_
        refine ⟨_, rfl, _, rfl, _, _, rfl, rfl, .inl ⟨by decide, by decide⟩, _, _, rfl, rfl, _, rfl, _, rfl, _, _, rfl, rfl, .inl ⟨by decide, by decide⟩, _, _, rfl, rfl, _, _, rfl, rfl, _, _, rfl, rfl, go _ (by omega) (by omega), _, rfl, _, _, rfl, rfl, (show (9 : Int) ≠ 0 by decide), _, _, rfl, rfl, _, _, _, rfl, by decide, fun H1 z s1 z0 z1 => ?_⟩
        exact ⟨_, rfl, _, _, rfl, rfl, by omega, fin z H1 s1⟩

end PD

namespace PD
open PySem PySem.Spec PyProof.Rows L2

/-! Phrasedesk, part 5: the law's froms, rows, its own going up -/
--# _law_froms
def spLawFroms (K : PySem.W.Frag) : Sp := fun vs H Q _ => ∃ (a : Addr) (ns : List Int) (b : Int), vs = [.ref a, .int b] ∧ SqL K H a (ns.map V.int) ∧ 0 ≤ b ∧ b ≤ 100 ∧ ∀ (H' : Hp) (l : Addr) (fr : List Int), Same H H' → H l = none → LsAt H' l fr → FrOk fr → Q (.ref l) H'
theorem sc_law_froms : FnScope ["_law_script", "_law_by", "_law_cell", "_law_kind", "_law_found", "_law_at"] ["_law_script", "_law_by"] (defScope s_law_froms) := ⟨rfl, rfl, rfl, by decide +kernel, rfl, by decide +kernel, by decide +kernel⟩
theorem c_law_froms {P : Program} {w : World} {K : PySem.W.Frag} {mg : Str → Option Value} {base : Heap} (T : Tx K mg) : C8.Cal P w K mg base 3 "_law_froms" (spLawFroms K) [] := by
  refine calD T.F_law_froms T.g_law_froms (fun _ _ _ _ _ _ us hl => match us, hl with | [_, _], _ => rfl) sc_law_froms (fun vs H Q E h => ?_) (fun cdv A outer s H vs Q E hr h => ?_)
  · obtain ⟨a, ns, b, rfl, _⟩ := h
    rfl
  · obtain ⟨a, ns, b, rfl, hS, b0, b1, q⟩ := h
    refine ⟨_, (pss_cons (ps_set (i := 2) sc_law_froms.nd rfl (Or.inl rfl) (C8.pe_c (c_law_cell_at T) hr (by decide) rfl (pa_cons (pv 0) (pa_cons (pv 1) pa_nil))))
    (pss_cons (ps_par (i := 3) (j := 4) (by rfl) sc_law_froms.nd rfl rfl (by decide) rfl rfl (pa_cons (C8.pe_c (c_law_number T) hr (by decide) rfl (pa_cons (pv 2) (pa_cons (pe_op op_add (pv 1) pe_int) (pa_cons pe_int pa_nil)))) (pa_cons (pe_lst pa_nil) pa_nil)) (by rfl))
    (pss_cons (ps_for PassesOwn.never rfl (pi_range1 (by rfl) T.f_range (pa_cons (pe_op op_add pe_int (C8.pe_c (c_law_number T) hr (by decide) rfl (pa_cons (pv 2) (pa_cons (pe_op op_add (pv 1) pe_int) (pa_cons pe_int pa_nil))))) pa_nil)) (pg_name (i := 5) sc_law_froms.nd rfl (Or.inl rfl))
      (pss_one (ps_expr (pe_bm PySem.F.plainAttrs_list PySem.F.slot_list_append PySem.F.type_list_append mt_append (pv 4) (pa_cons (pe_ix ix_tup (pe_tup (pa_cons (pv 5) (pa_cons pe_int (pa_cons (C8.pe_c (c_law_number T) hr (by decide) rfl (pa_cons (pe_op op_add (pv 2) (pe_op op_mul pe_int (pv 5))) (pa_cons (pe_op op_add (pv 5) pe_int) (pa_cons (pe_op op_add (pv 5) pe_int) pa_nil)))) pa_nil)))) (pv 3) (fun _ _ => rfl)) pa_nil)))))
    (pss_one (ps_ret (pv 4)))))), ?_⟩
    refine ⟨_, rfl, _, rfl, a, ns, b, rfl, hS, b0, fun cz => ?_⟩
    refine ⟨_, rfl, _, rfl, _, _, rfl, rfl, _, _, _, rfl, by omega, by omega, by decide, by decide, fun H1 kd s1 k0 k1 => ⟨Nat.zero_le _, fun l nl => ⟨_, _, rfl, ?_⟩⟩⟩
    have nl0 : H l = none := s1.free nl
    have s2 : Same H (upd H1 l (.lst [])) := s1.trans (same_upd nl)
    have hl2 : LsAt (upd H1 l (.lst [])) l [] := upd_same
    refine ⟨_, rfl, _, rfl, _, _, rfl, rfl, _, _, _, rfl, by omega, by omega, by decide, by decide, fun H3 z s3 z0 z1 => ⟨_, _, rfl, rfl, _, rfl, by omega, by omega, ?_⟩⟩
    refine for_range (lo := 0) (n := (1 + z).toNat) (fun i σ H4 => ∃ (fr : List Int) (va : Option V), σ = [some (.ref a), some (.int b), some (.int cz), some (.int kd), some (.ref l), va] ∧ Same H H4 ∧ LsAt H4 l fr ∧ fr.length = i ∧ ∀ (j : Nat) (x : Int), fr[j]? = some x → 0 ≤ x ∧ x ≤ (j : Int))
      ⟨[], none, rfl, s2.trans s3, hl2.same s3, rfl, fun j x e => by simp at e⟩ ?_ ?_
    · rintro i σ H4 hi ⟨fr, va, rfl, s4, hl, hn, he⟩
      refine ⟨_, rfl, .inl ⟨rfl, _, SqL.of hl⟩, _, rfl, _, rfl, _, rfl, _, _, rfl, rfl, .inl ⟨by decide, by decide⟩, _, _, rfl, rfl, _, rfl, _, _, rfl, rfl, _, rfl, _, _, rfl, rfl, _, _, _, rfl, by omega, by omega, by omega, by omega, fun H5 x s5 x0 x1 => ⟨(by show 3 ≤ sizeLine; decide), fun p np => ?_⟩⟩
      have hl5 : LsAt (upd H5 p (.tup [V.int (0 + (i : Int)), V.int 0, V.int x])) l fr := (hl.same s5).same (same_upd np)
      have fin : ∀ y : Int, 0 ≤ y → y ≤ (i : Int) → ∃ (fr' : List Int) (va : Option V), [some (V.ref a), some (V.int b), some (V.int cz), some (V.int kd), some (V.ref l), some (V.int (0 + (i : Int)))] = [some (V.ref a), some (V.int b), some (V.int cz), some (V.int kd), some (V.ref l), va] ∧
          Same H (upd (upd H5 p (.tup [V.int (0 + (i : Int)), V.int 0, V.int x])) l (.lst (fr.map V.int ++ [V.int y]))) ∧ LsAt (upd (upd H5 p (.tup [V.int (0 + (i : Int)), V.int 0, V.int x])) l (.lst (fr.map V.int ++ [V.int y]))) l fr' ∧ fr'.length = i + 1 ∧ ∀ (j : Nat) (x : Int), fr'[j]? = some x → 0 ≤ x ∧ x ≤ (j : Int) := by
        intro y y0 y1
        refine ⟨fr ++ [y], _, rfl, Same.chg ((s4.trans s5).trans (same_upd np)) nl0, ?_, by rw [List.length_append, hn]; rfl, ?_⟩
        · unfold LsAt
          rw [upd_same, List.map_append]
          rfl
        · intro j v e
          by_cases hj : j < fr.length
          · rw [List.getElem?_append_left hj] at e
            exact he j v e
          · rw [List.getElem?_append_right (by omega)] at e
            have ej : j - fr.length = 0 := by
              by_cases z : j - fr.length = 0
              · exact z
              · have : j - fr.length = (j - fr.length - 1) + 1 := by omega
                rw [this] at e
                simp at e
            rw [ej] at e
            cases (Option.some.inj e)
            exact ⟨y0, by omega⟩
      obtain ⟨y, ey, y0, y1⟩ : ∃ y : Int, [V.int (0 + (i : Int)), V.int 0, V.int x][kd.toNat]? = some (V.int y) ∧ 0 ≤ y ∧ y ≤ (i : Int) := by
        have hk : kd = 0 ∨ kd = 1 ∨ kd = 2 := by omega
        rcases hk with rfl | rfl | rfl
        · exact ⟨_, rfl, by omega, by omega⟩
        · exact ⟨_, rfl, by omega, by omega⟩
        · exact ⟨_, rfl, by omega, by omega⟩
      have hz : (fr.map V.int).length < sizeLine := by
        rw [List.length_map]
        exact small1000 (by omega)
      refine ⟨_, rfl, p, _, _, V.int y, rfl, rfl, SqT.of upd_same, at_of (j := kd.toNat) (by omega) ey, l, _, _, rfl, rfl, hl5, hz, ?_⟩
      exact fin y y0 y1
    · rintro σ H4 ⟨fr, va, rfl, s4, hl, hn, he⟩
      exact ⟨_, rfl, q H4 l fr s4 nl0 hl ⟨by omega, by omega, he⟩⟩
--# _law_chain
theorem brk_cases {H : Hp} {fr : List Int} {row : List Cell} {vs : List V} {t : Nat} (fo : FrOk fr) (ro : RowOk fr row) (hc : Cells H vs row) (h0 : 0 < t) (h1 : t ≤ fr.length) : ∃ v1 v2, vs[t]? = some v1 ∧ vs[up fr t]? = some v2 ∧
    ((v1 = .non ∧ brk fr row t = true) ∨ (∃ p1, v1 = .ref p1 ∧ v2 = .non ∧ brk fr row t = true) ∨
      ∃ p1 p2 n1 m1 n2 b2, v1 = .ref p1 ∧ v2 = .ref p2 ∧ H p1 = some (.tup [.int n1, .int m1]) ∧ H p2 = some (.tup [.int n2, oV b2]) ∧ brk fr row t = !decide (m1 = n2)) := by
  have hl1 : t < row.length := by rw [ro.len]; omega
  have hl2 : up fr t < row.length := by
    have := up_lt fo h0 h1
    rw [ro.len]
    omega
  obtain ⟨v1, e1, c1⟩ := hc.each t row[t] (List.getElem?_eq_getElem hl1)
  obtain ⟨v2, e2, c2⟩ := hc.each (up fr t) row[up fr t] (List.getElem?_eq_getElem hl2)
  have g1 : row.getD t none = row[t] := getD_of (List.getElem?_eq_getElem hl1)
  have g2 : row.getD (up fr t) none = row[up fr t] := getD_of (List.getElem?_eq_getElem hl2)
  refine ⟨v1, v2, e1, e2, ?_⟩
  unfold brk
  rw [g1, g2]
  cases q1 : row[t] with
  | none =>
    rw [q1] at c1
    exact .inl ⟨c1, rfl⟩
  | some c =>
    obtain ⟨n1, b1⟩ := c
    rw [q1] at c1
    obtain ⟨p1, rfl, k1⟩ := c1
    cases q2 : row[up fr t] with
    | none =>
      rw [q2] at c2
      exact .inr (.inl ⟨p1, rfl, c2, rfl⟩)
    | some d =>
      obtain ⟨n2, b2⟩ := d
      rw [q2] at c2
      obtain ⟨p2, rfl, k2⟩ := c2
      obtain ⟨m1, m2, em, _, _⟩ : ∃ a b, (some (n1, b1) : Cell) = some (a, some b) ∧ 0 ≤ a ∧ 0 ≤ b := by
        have et : row[t - 1 + 1]? = some (some (n1, b1)) := by
          rw [show t - 1 + 1 = t by omega, List.getElem?_eq_getElem hl1, q1]
        rcases ro.each (t - 1) _ et with z | z
        · cases z
        · exact z
      cases em
      refine .inr (.inr ⟨p1, p2, n1, m2, n2, b2, rfl, rfl, k1, k2, ?_⟩)
      show (!decide (some m2 = some n2)) = !decide (m2 = n2)
      by_cases z : m2 = n2
      · subst z
        simp
      · simp [z]
def spLawChain : Sp := fun vs H Q _ => ∃ (a : Addr) (fr : List Int) (p : Addr) (row : List Cell) (t : Nat), vs = [.ref a, .ref p, .int (t : Int)] ∧ Asked H a fr p row t ∧
  ∀ (H' : Hp) (l : Addr), Same H H' → H l = none → LsAt H' l ((chain fr row t).getD []) → Q (.ref l) H'
theorem dec_ne {x y : Int} : (!decide (V.int x = V.int y)) = !decide (y = x) := by
  by_cases z : x = y
  · subst z
    simp
  · have z1 : ¬ V.int x = V.int y := fun e => z (V.int.inj e)
    have z2 : ¬ y = x := fun e => z e.symm
    rw [decide_eq_false z1, decide_eq_false z2]
theorem sc_law_chain : FnScope ["_law_froms_here", "_law_row", "_law_tongue", "_law_found", "_law_turn", "_law_above"] ["_law_froms_here", "_law_row", "_law_tongue"] (defScope s_law_chain) := ⟨rfl, rfl, rfl, by decide +kernel, rfl, by decide +kernel, by decide +kernel⟩
theorem c_law_chain {P : Program} {w : World} {K : PySem.W.Frag} {mg : Str → Option Value} {base : Heap} (T : Tx K mg) : C8.Cal P w K mg base 1 "_law_chain" (spLawChain) [] := by
  refine calD T.F_law_chain T.g_law_chain (fun _ _ _ _ _ _ us hl => match us, hl with | [_, _, _], _ => rfl) sc_law_chain (fun vs H Q E h => ?_) (fun cdv A outer s H vs Q E hr h => ?_)
  · obtain ⟨a, fr, p, row, t, rfl, _⟩ := h
    rfl
  · obtain ⟨a, fr, p, row, t, rfl, hA, q⟩ := h
    refine ⟨_, (pss_cons (ps_set (i := 3) sc_law_chain.nd rfl (Or.inl rfl) (pe_lst pa_nil))
    (pss_cons (ps_for PassesOwn.never rfl (pi_range1 (by rfl) T.f_range (pa_cons (pe_callB call_len_seq (by rfl) T.f_len (by decide +kernel) (pa_cons (pv 1) pa_nil)) pa_nil)) (pg_name (i := 4) sc_law_chain.nd rfl (Or.inl rfl))
      (pss_cons (ps_expr (pe_bm PySem.F.plainAttrs_list PySem.F.slot_list_append PySem.F.type_list_append mt_append (pv 3) (pa_cons (pv 2) pa_nil)))
      (pss_cons (ps_if (pt_cmpR op_eq (pv 2) pe_int (nomark _))
        (pss_one (ps_ret (pe_lst pa_nil)))
        pss_nil)
      (pss_cons (ps_set (i := 5) sc_law_chain.nd rfl (Or.inl rfl) (pe_ix ix_list (pv 0) (pe_op op_sub (pv 2) pe_int) (fun _ _ => rfl)))
      (pss_cons (ps_if (PW.pt (pw_or (pt_cmpR op_isN (pe_ix ix_list (pv 1) (pv 2) (fun _ _ => rfl)) pe_non (nomark _)) (pw_or (pt_cmpR op_isN (pe_ix ix_list (pv 1) (pv 5) (fun _ _ => rfl)) pe_non (nomark _)) (pw_or1 (pt_cmpR op_ne (pe_ix ix_tup (pe_ix ix_list (pv 1) (pv 5) (fun _ _ => rfl)) pe_int (fun _ _ => rfl)) (pe_ix ix_tup (pe_ix ix_list (pv 1) (pv 2) (fun _ _ => rfl)) pe_int (fun _ _ => rfl)) (nomark _))))))
        (pss_one (ps_ret (pv 3)))
        pss_nil)
      (pss_one (ps_set (i := 2) sc_law_chain.nd rfl (Or.inl rfl) (pv 5))))))))
    (pss_one (ps_ret (pe_lst pa_nil))))), ?_⟩
    have fo := hA.fo
    have ro := hA.ro
    have hi7 := fo.hi
    obtain ⟨vs, hv, hc⟩ := hA.hp
    have ha := hA.ha
    have hln : vs.length = fr.length + 1 := by rw [hc.len, ro.len]
    refine ⟨Nat.zero_le _, fun l nl => ?_⟩
    have s0 : Same H (upd H l (.lst [])) := same_upd nl
    refine ⟨_, rfl, p, _, rfl, .inl (SqL.of (s0 _ _ hv)), _, rfl, by omega, by omega, ?_⟩
    refine for_range (lo := 0) (n := ((vs.length : Int)).toNat) (fun k σ H1 => ∃ (u : Nat) (acc : List Int) (v4 v5 : Option V), σ = [some (.ref a), some (.ref p), some (.int (u : Int)), some (.ref l), v4, v5] ∧ u ≤ fr.length ∧ Same H H1 ∧ LsAt H1 l acc ∧ acc.length = k ∧ k + u ≤ t ∧ chain fr row t = (chain fr row u).map (acc ++ ·))
      ⟨t, [], none, none, rfl, hA.ht, s0, upd_same, rfl, by omega, by simp⟩ ?_ ?_
    · rintro k σ H1 hk ⟨u, acc, v4, v5, rfl, hu, s1, hl, hn, hku, he⟩
      have hz : acc.length < sizeLine := small1000 (by have := hA.ht; omega)
      refine ⟨_, rfl, .inl ⟨rfl, _, SqL.of hl⟩, _, rfl, l, _, _, rfl, rfl, hl, by rw [List.length_map]; exact hz, ?_⟩
      have s2 : Same H (upd H1 l (.lst (acc.map V.int ++ [V.int (u : Int)]))) := Same.chg s1 nl
      have hl2 : LsAt (upd H1 l (.lst (acc.map V.int ++ [V.int (u : Int)]))) l (acc ++ [(u : Int)]) := by
        unfold LsAt
        rw [upd_same, List.map_append]
        rfl
      generalize upd H1 l (.lst (acc.map V.int ++ [V.int (u : Int)])) = H2 at s2 hl2 ⊢
      refine ⟨_, rfl, rfl, decide (u = 0), ?_, ?_⟩
      · have : decide (V.int (u : Int) = V.int 0) = decide (u = 0) := by
          rw [dec_int]
          by_cases z : u = 0
          · subst z
            rfl
          · rw [decide_eq_false z]
            exact beq_eq_false_iff_ne.mpr (by omega)
        exact congrArg V.bl this
      by_cases u0 : u = 0
      · rw [decide_eq_true u0]
        subst u0
        refine iteT ⟨Nat.zero_le _, fun m nm => ?_⟩
        refine q _ m (s2.trans (same_upd nm)) (s2.free nm) ?_
        rw [he, chain_zero]
        exact upd_same
      · rw [decide_eq_false u0]
        have u1 : 0 < u := by omega
        obtain ⟨x, ex, x0, xl, xu⟩ := fo.at u1 hu
        refine iteF ⟨_, rfl, _, rfl, _, _, rfl, rfl, a, _, _, V.int x, rfl, rfl, SqL.of (ha.same s2), at_of (j := u - 1) (by omega) (ivs ex), ?_⟩
        have hv2 : H2 p = some (.lst vs) := s2 _ _ hv
        obtain ⟨w1, w2, e1, e2, hw⟩ := brk_cases fo ro hc u1 hu
        have hs := chain_step (row := row) fo u1 hu
        have back : brk fr row u = true → LsAt H2 l ((chain fr row t).getD []) := fun hb => by
          rw [hb] at hs
          rw [he, hs]
          exact hl2
        refine ⟨_, rfl, _, rfl, p, _, _, w1, rfl, rfl, SqL.of hv2, at_of (j := u) rfl e1, rfl, decide (w1 = .non), rfl, ?_⟩
        rcases hw with ⟨rfl, hb⟩ | ⟨p1, rfl, rfl, hb⟩ | ⟨p1, p2, n1, m1, n2, b2, rfl, rfl, k1, k2, hb⟩
        · rw [decide_eq_true rfl]
          exact iteT ⟨_, rfl, q H2 l s2 nl (back hb)⟩
        · rw [decide_eq_false (by intro z; cases z)]
          refine iteF ⟨_, rfl, _, rfl, p, _, _, .non, rfl, rfl, SqL.of hv2, at_of (j := up fr u) xu e2, rfl, true, bl_of (decide_eq_true rfl), iteT ⟨_, rfl, q H2 l s2 nl (back hb)⟩⟩
        · rw [decide_eq_false (by intro z; cases z)]
          refine iteF ⟨_, rfl, _, rfl, p, _, _, .ref p2, rfl, rfl, SqL.of hv2, at_of (j := up fr u) xu e2, rfl, false, by rw [decide_eq_false (by intro z; cases z)], iteF ?_⟩
          refine ⟨_, rfl, _, rfl, p, _, _, .ref p2, rfl, rfl, SqL.of hv2, at_of (j := up fr u) xu e2, p2, _, _, _, rfl, rfl, SqT.of (s2 _ _ k2), atI_nat (j := 0) rfl, _, rfl, _, rfl, p, _, _, .ref p1, rfl, rfl, SqL.of hv2, at_of (j := u) rfl e1, p1, _, _, _, rfl, rfl, SqT.of (s2 _ _ k1), atI_nat (j := 1) rfl, rfl, !decide (m1 = n2), congrArg V.bl dec_ne, ?_⟩
          cases hbb : brk fr row u with
          | true =>
            rw [← hb, hbb]
            exact iteT ⟨_, rfl, q H2 l s2 nl (back hbb)⟩
          | false =>
            rw [← hb, hbb]
            rw [hbb] at hs
            refine iteF ⟨_, rfl, up fr u, acc ++ [(u : Int)], _, _, by rw [xu]; rfl, by have := up_lt fo u1 hu; omega, s2, hl2, by rw [List.length_append, hn]; rfl, by have := up_lt fo u1 hu; omega, ?_⟩
            rw [he, hs]
            exact map_some_app
    · rintro σ H1 ⟨u, acc, v4, v5, rfl, hu, s1, hl, hn, hku, he⟩
      exfalso
      have := hA.ht
      omega
--# _law_says
def spSays : Sp := fun vs H Q _ => ∃ b c : Bool, vs = [.bl b, .bl c] ∧ Q (.bl (decide (b = c))) H
theorem sc_law_says : FnScope ["_law_said", "_law_due_here"] ["_law_said", "_law_due_here"] (defScope s_law_says) := ⟨rfl, rfl, rfl, by decide +kernel, rfl, by decide +kernel, by decide +kernel⟩
theorem c_law_says {P : Program} {w : World} {K : PySem.W.Frag} {mg : Str → Option Value} {base : Heap} (T : Tx K mg) : C8.Cal P w K mg base 1 "_law_says" (spSays) [] := by
  refine calD T.F_law_says T.g_law_says (fun _ _ _ _ _ _ us hl => match us, hl with | [_, _], _ => rfl) sc_law_says (fun vs H Q E h => ?_) (fun cdv A outer s H vs Q E hr h => ?_)
  · obtain ⟨b, c, rfl, _⟩ := h
    rfl
  · obtain ⟨b, c, rfl, q⟩ := h
    refine ⟨_, (pss_one (ps_ret (pe_and (pe_callB call_isi (by rfl) T.f_isinstance (by decide +kernel) (pa_cons (pv 0) (pa_cons (pe_bltn (v := .ty "bool") (by rfl) T.f_bool (by decide +kernel) rfl) pa_nil))) (pe_one (pe_cmpR op_eq (pv 0) (pv 1) (nomark _)))))), ?_⟩
    refine ⟨_, rfl, _, _, _, _, true, rfl, .ty _, .base (.bl b), is_ty (by decide +kernel), true, rfl, iteT ⟨_, rfl, _, rfl, rfl, qt ?_ q⟩⟩
    cases b <;> cases c <;> decide
--# _law_drawn
def spDrawn (K : PySem.W.Frag) : Sp := fun vs H Q _ => ∃ (a : Addr) (ns : List Int) (b : Int) (f : Addr) (fr : List Int), vs = [.ref a, .int b, .ref f] ∧ SqL K H a (ns.map V.int) ∧ 0 ≤ b ∧ b ≤ 100 ∧ LsAt H f fr ∧ FrOk fr ∧
  ∀ (H' : Hp) (p : Addr) (row : List Cell), Same H H' → H p = none → RowAt H' p row → RowOk fr row → Q (.ref p) H'
theorem Cells.snoc {H : Hp} {vs : List V} {row : List Cell} (h : Cells H vs row) {v : V} {c : Cell} (hc : CellV H v c) : Cells H (vs ++ [v]) (row ++ [c]) := by
  refine ⟨by rw [List.length_append, List.length_append, h.len]; rfl, fun i d e => ?_⟩
  by_cases hi : i < row.length
  · rw [List.getElem?_append_left hi] at e
    obtain ⟨w, h1, h2⟩ := h.each i d e
    exact ⟨w, by rw [List.getElem?_append_left (by rw [h.len]; exact hi)]; exact h1, h2⟩
  · rw [List.getElem?_append_right (by omega)] at e
    have ei : i - row.length = 0 := by
      by_cases z : i - row.length = 0
      · exact z
      · have : i - row.length = (i - row.length - 1) + 1 := by omega
        rw [this] at e
        simp at e
    rw [ei] at e
    cases (Option.some.inj e)
    exact ⟨v, by rw [List.getElem?_append_right (by rw [h.len]; omega), h.len, ei]; rfl, hc⟩
/-- rows that grow -/
structure Grow (H : Hp) (D : Addr) (i : Nat) (row : List Cell) : Prop where
  at_ : RowAt H D row
  len : row.length = i + 1
  src : ∃ a, row[0]? = some (some (a, none)) ∧ 0 ≤ a
  each : ∀ (j : Nat) (c : Cell), row[j + 1]? = some c → c = none ∨ ∃ a b, c = some (a, some b) ∧ 0 ≤ a ∧ 0 ≤ b
theorem Grow.same {H H' : Hp} (s : Same H H') {D : Addr} {i : Nat} {row : List Cell} (h : Grow H D i row) : Grow H' D i row := ⟨h.at_.same s, h.len, h.src, h.each⟩
theorem Grow.fst {H : Hp} {D : Addr} {i : Nat} {row : List Cell} (h : Grow H D i row) {j : Nat} {c : Int × Option Int} (e : row[j]? = some (some c)) : 0 ≤ c.1 := by
  cases j with
  | zero =>
    obtain ⟨a, e1, h0⟩ := h.src
    rw [e1] at e
    cases (Option.some.inj (Option.some.inj e))
    exact h0
  | succ j =>
    rcases h.each j _ e with z | ⟨a, b, z, h0, _⟩
    · cases z
    · cases z
      exact h0
theorem Grow.snoc {H : Hp} {D : Addr} {i : Nat} {row : List Cell} {vs : List V} (h : Grow H D i row) (hv : H D = some (.lst vs)) {v : V} {c : Cell} (hc : CellV H v c) (ok : c = none ∨ ∃ a b, c = some (a, some b) ∧ 0 ≤ a ∧ 0 ≤ b)
    (nt : ∀ q o, H q = some (.tup o) → q ≠ D) : Grow (upd H D (.lst (vs ++ [v]))) D (i + 1) (row ++ [c]) := by
  obtain ⟨ws, hw, hcs⟩ := h.at_
  rw [hv] at hw
  cases (HO.lst.inj (Option.some.inj hw))
  have hs := hcs.snoc hc
  have hlen := h.len
  refine ⟨⟨vs ++ [v], upd_same, ⟨hs.len, fun j d e => ?_⟩⟩, by rw [List.length_append, hlen]; rfl, ?_, fun j d e => ?_⟩
  · obtain ⟨x, h1, h2⟩ := hs.each j d e
    refine ⟨x, h1, ?_⟩
    match d, h2 with
    | none, h2 => exact h2
    | some (n, b), ⟨q, e1, e2⟩ => exact ⟨q, e1, by rw [upd_ne (nt q _ e2)]; exact e2⟩
  · obtain ⟨n, e, h0⟩ := h.src
    exact ⟨n, by rw [List.getElem?_append_left (by omega)]; exact e, h0⟩
  · by_cases hj : j + 1 < row.length
    · rw [List.getElem?_append_left hj] at e
      exact h.each j d e
    · rw [List.getElem?_append_right (by omega)] at e
      have ej : j + 1 - row.length = 0 := by
        by_cases z : j + 1 - row.length = 0
        · exact z
        · have : j + 1 - row.length = (j + 1 - row.length - 1) + 1 := by omega
          rw [this] at e
          simp at e
      rw [ej] at e
      cases (Option.some.inj e)
      exact ok
theorem sc_law_drawn : FnScope ["_law_script", "_law_by", "_law_froms_here", "_law_found", "_law_at", "_law_above", "_law_cell", "_law_seen"] ["_law_script", "_law_by", "_law_froms_here"] (defScope s_law_drawn) := ⟨rfl, rfl, rfl, by decide +kernel, rfl, by decide +kernel, by decide +kernel⟩
theorem c_law_drawn {P : Program} {w : World} {K : PySem.W.Frag} {mg : Str → Option Value} {base : Heap} (T : Tx K mg) : C8.Cal P w K mg base 3 "_law_drawn" (spDrawn K) [] := by
  refine calD T.F_law_drawn T.g_law_drawn (fun _ _ _ _ _ _ us hl => match us, hl with | [_, _, _], _ => rfl) sc_law_drawn (fun vs H Q E h => ?_) (fun cdv A outer s H vs Q E hr h => ?_)
  · obtain ⟨a, ns, b, f, fr, rfl, _⟩ := h
    rfl
  · obtain ⟨a, ns, b, f, fr, rfl, hS, b0, b1, hf, fo, q⟩ := h
    refine ⟨_, (pss_cons (ps_set (i := 3) sc_law_drawn.nd rfl (Or.inl rfl) (pe_lst (pa_cons (pe_tup (pa_cons (C8.pe_c (c_law_number T) hr (by decide) rfl (pa_cons (C8.pe_c (c_law_cell_at T) hr (by decide) rfl (pa_cons (pv 0) (pa_cons (pv 1) pa_nil))) (pa_cons (pe_op op_add (pv 1) pe_int) (pa_cons pe_int pa_nil)))) (pa_cons pe_non pa_nil))) pa_nil)))
    (pss_cons (ps_for PassesOwn.never rfl (pi_enum (by rfl) T.f_enumerate (pa_cons (pv 2) pa_nil)) (pg_tup rfl (pgs_cons (pg_name (i := 4) sc_law_drawn.nd rfl (Or.inl rfl)) (pgs_cons (pg_name (i := 5) sc_law_drawn.nd rfl (Or.inl rfl)) pgs_nil)))
      (pss_cons (ps_set (i := 6) sc_law_drawn.nd rfl (Or.inl rfl) (pe_op op_add (C8.pe_c (c_law_cell_at T) hr (by decide) rfl (pa_cons (pv 0) (pa_cons (pe_op op_add (pv 1) (pe_op op_modN (pv 4) pe_int)) pa_nil))) (pe_op op_mul pe_int (pv 4))))
      (C8.pss_cut (ps_set (i := 7) sc_law_drawn.nd rfl (Or.inl rfl) (pe_ifExp (pt_cmpR op_notN (pe_ix ix_list (pv 3) (pv 5) (fun _ _ => rfl)) pe_non (nomark _)) (pe_ix ix_tup (pe_ix ix_list (pv 3) (pv 5) (fun _ _ => rfl)) pe_int (fun _ _ => rfl)) pe_int))
      (C8.pss_cut (ps_if (pt_cmpR op_eq (C8.pe_c (c_law_number T) hr (by decide) rfl (pa_cons (pv 6) (pa_cons (pe_op op_add (pv 4) pe_int) (pa_cons pe_int pa_nil)))) pe_int (nomark _))
        (pss_one (ps_set (i := 7) sc_law_drawn.nd rfl (Or.inl rfl) (C8.pe_c (c_law_number T) hr (by decide) rfl (pa_cons (pv 6) (pa_cons (pe_op op_add (pv 4) pe_int) (pa_cons (pe_ix ix_tup (pe_tup (pa_cons pe_int (pa_cons (pe_op op_pow pe_int pe_int) pa_nil))) (pe_op op_modN (pv 4) pe_int) (fun _ _ => rfl)) pa_nil))))))
        pss_nil)
      (pss_one (ps_expr (pe_bm PySem.F.plainAttrs_list PySem.F.slot_list_append PySem.F.type_list_append mt_append (pv 3) (pa_cons (pe_ifExp (pt_cmpR op_gt (C8.pe_c (c_law_number T) hr (by decide) rfl (pa_cons (pv 6) (pa_cons (pe_op op_add (pv 4) pe_int) (pa_cons pe_int pa_nil)))) pe_int (nomark _)) (pe_tup (pa_cons (C8.pe_c (c_law_number T) hr (by decide) rfl (pa_cons (pv 6) (pa_cons (pe_op op_add (pv 4) pe_int) (pa_cons pe_int pa_nil)))) (pa_cons (pv 7) pa_nil))) pe_non) pa_nil))))))))
    (pss_one (ps_ret (pv 3))))), ?_⟩
    have hi7 := fo.hi
    refine ⟨_, rfl, _, rfl, a, ns, b, rfl, hS, b0, fun cz => ⟨_, rfl, _, _, rfl, rfl, _, _, _, rfl, by omega, by omega, by decide, by decide, fun H1 n0 s1 n00 n01 => ?_⟩⟩
    refine ⟨(by show 2 ≤ sizeLine; decide), fun p0 np0 => ⟨(by show 1 ≤ sizeLine; decide), fun D nD => ?_⟩⟩
    have s2 : Same H (upd H1 p0 (.tup [V.int n0, V.non])) := s1.trans (same_upd np0)
    have nD0 : H D = none := s2.free nD
    have s3 := s2.trans (same_upd nD (o := .lst [V.ref p0]))
    have g0 : Grow (upd (upd H1 p0 (.tup [V.int n0, V.non])) D (.lst [V.ref p0])) D 0 [some (n0, none)] := by
      have hp0 : (upd H1 p0 (.tup [V.int n0, V.non])) p0 = some (.tup [V.int n0, V.non]) := upd_same
      refine ⟨⟨_, upd_same, ⟨rfl, fun j c e => ?_⟩⟩, rfl, ⟨n0, rfl, n00⟩, fun j c e => by simp at e⟩
      cases j with
      | zero =>
        cases (Option.some.inj e)
        exact ⟨_, rfl, p0, rfl, by rw [upd_ne (ne_of_none hp0 nD)]; exact hp0⟩
      | succ j => simp at e
    refine ⟨_, rfl, f, _, rfl, SqL.of (hf.same s3), ?_⟩
    refine for_it (walk_enum (K := K) (a := f) (xs := fr.map V.int)) (fun i σ H4 => ∃ (row : List Cell) (v4 v5 v6 v7 : Option V), σ = [some (.ref a), some (.int b), some (.ref f), some (.ref D), v4, v5, v6, v7] ∧ Same H H4 ∧ Grow H4 D i row)
      ⟨_, none, none, none, none, rfl, s3, g0⟩ (fun i σ H4 _ ⟨_, _, _, _, _, _, s4, _⟩ => SqL.of (hf.same s4)) ?_ ?_
    · rintro i v σ H4 H5 hi ⟨row, v4, v5, v6, v7, rfl, s4, g⟩ ⟨U, x, y, rfl, nU, rfl, e1, e2⟩
      cases (Option.some.inj e1)
      obtain ⟨z, rfl, ez⟩ := ivs_of e2
      obtain ⟨z0, z1⟩ := fo.each i z ez
      rw [List.length_map] at hi
      have sU : Same H4 (upd H4 U (.tup [V.int (i : Nat), V.int z])) := same_upd nU
      refine ⟨U, _, rfl, .inl (.inl upd_same), rfl, _, _, rfl, _, _, rfl, rfl, ?_⟩
      have g5 := g.same sU
      have s5 := s4.trans sU
      generalize upd H4 U (.tup [V.int (i : Nat), V.int z]) = H5 at g5 s5 ⊢
      have m0 : 0 ≤ Int.fmod (i : Int) 7 := fmod_lo (by decide)
      refine ⟨_, rfl, _, rfl, _, rfl, _, _, rfl, rfl, (show (7 : Int) ≠ 0 by decide), _, _, rfl, rfl, a, ns, _, rfl, s5.seq hS, by omega, fun cy => ⟨_, rfl, _, _, rfl, rfl, .inl ⟨by decide, by decide⟩, _, _, rfl, rfl, ?_⟩⟩
      -- seen
      refine ⟨fun σ' H' => ∃ (se : Int) (c6 : Option V), 0 ≤ se ∧ σ' = [some (.ref a), some (.int b), some (.ref f), some (.ref D), some (.int (i : Nat)), some (.int z), some (.int (cy + 19 * (i : Nat))), some (.int se)] ∧ H5 = H', ?_, ?_⟩
      · obtain ⟨vs, hv, hc⟩ := g5.at_
        have hz : z.toNat < row.length := by rw [g5.len]; omega
        obtain ⟨w, ew, cw⟩ := hc.each z.toNat _ (List.getElem?_eq_getElem hz)
        refine ⟨_, rfl, _, rfl, D, _, _, w, rfl, rfl, SqL.of hv, at_of (j := z.toNat) (by omega) ew, rfl, !decide (w = .non), rfl, ?_⟩
        cases qc : row[z.toNat] with
        | none =>
          rw [qc] at cw
          cases (show w = .non from cw)
          rw [decide_eq_true rfl]
          exact iteF ⟨0, none, by decide, rfl, rfl⟩
        | some c =>
          obtain ⟨n1, b1'⟩ := c
          rw [qc] at cw
          obtain ⟨p1, rfl, k1⟩ := cw
          rw [decide_eq_false (by intro y; cases y)]
          have n10 : 0 ≤ n1 := g5.fst (c := (n1, b1')) (by rw [List.getElem?_eq_getElem hz, qc])
          exact iteT ⟨_, rfl, _, rfl, D, _, _, _, rfl, rfl, SqL.of hv, at_of (j := z.toNat) (by omega) ew, p1, _, _, _, rfl, rfl, SqT.of k1, atI_nat (j := 0) rfl, n1, none, n10, rfl, rfl⟩
      · rintro σ' H' ⟨se, c6, se0, rfl, rfl⟩
        refine ⟨fun σ' H' => ∃ se : Int, 0 ≤ se ∧ σ' = [some (.ref a), some (.int b), some (.ref f), some (.ref D), some (.int (i : Nat)), some (.int z), some (.int (cy + 19 * (i : Nat))), some (.int se)] ∧ Same H5 H', ?_, ?_⟩
        · refine ⟨_, rfl, _, rfl, _, _, rfl, rfl, _, _, _, rfl, by omega, by omega, by decide, by decide, fun H6 d s6 d0 d1 => ⟨rfl, decide (V.int d = V.int 0), rfl, ?_⟩⟩
          by_cases hd : V.int d = V.int 0
          · rw [decide_eq_true hd]
            refine iteT ⟨_, rfl, _, rfl, _, _, rfl, rfl, _, _, rfl, rfl, ⟨by decide, by decide, by decide⟩, (by show 2 ≤ sizeLine; decide), fun t nt => ?_⟩
            have m2 : 0 ≤ Int.fmod (i : Int) 2 := fmod_lo (by decide)
            have m3 : Int.fmod (i : Int) 2 < 2 := fmod_hi (by decide)
            obtain ⟨y, ey, y0, y1⟩ : ∃ y : Int, [V.int 5, V.int ((10 : Int) ^ ((20 : Int).toNat))][(Int.fmod (i : Int) 2).toNat]? = some (V.int y) ∧ 0 < y ∧ y ≤ 100000000000000000000 := by
              have hk : Int.fmod (i : Int) 2 = 0 ∨ Int.fmod (i : Int) 2 = 1 := by omega
              rcases hk with k | k
              · rw [k]
                exact ⟨_, rfl, by decide, by decide⟩
              · rw [k]
                exact ⟨_, rfl, by decide, by decide⟩
            refine ⟨_, rfl, _, _, rfl, rfl, (show (2 : Int) ≠ 0 by decide), t, _, _, _, rfl, rfl, SqT.of upd_same, at_of (j := (Int.fmod (i : Int) 2).toNat) (by show Int.fmod (i : Int) 2 = _; omega) ey, _, _, _, rfl, by omega, by omega, y0, y1, fun H7 e s7 e0 e1 => ?_⟩
            exact ⟨e, e0, rfl, (s6.trans (same_upd nt)).trans s7⟩
          · rw [decide_eq_false hd]
            exact iteF ⟨se, se0, rfl, s6⟩
        · rintro σ' H6 ⟨se, se0, rfl, s6⟩
          have g6 := g5.same s6
          have s06 := s5.trans s6
          obtain ⟨vs6, hv6, hc6⟩ := g6.at_
          refine ⟨_, rfl, .inl ⟨rfl, _, SqL.of hv6⟩, ?_⟩
          refine ⟨_, rfl, _, rfl, _, _, rfl, rfl, _, _, _, rfl, by omega, by omega, by decide, by decide, fun H7 d s7 d0 d1 => ⟨_, _, rfl, rfl, decide (0 < d), rfl, ?_⟩⟩
          have fin : ∀ (H8 : Hp) (v : V) (c : Cell), Same H6 H8 → CellV H8 v c → (c = none ∨ ∃ a b, c = some (a, some b) ∧ 0 ≤ a ∧ 0 ≤ b) → ∃ (row : List Cell) (v4 v5 v6 v7 : Option V), [some (V.ref a), some (V.int b), some (V.ref f), some (V.ref D), some (V.int (i : Nat)), some (V.int z), some (V.int (cy + 19 * (i : Nat))), some (V.int se)] = [some (.ref a), some (.int b), some (.ref f), some (.ref D), v4, v5, v6, v7] ∧
              Same H (upd H8 D (.lst (vs6 ++ [v]))) ∧ Grow (upd H8 D (.lst (vs6 ++ [v]))) D (i + 1) row := by
            intro H8 v c s8 hc ok
            refine ⟨row ++ [c], _, _, _, _, rfl, Same.chg (s06.trans s8) nD0, (g6.same s8).snoc (s8 _ _ hv6) hc ok fun q o e => ?_⟩
            exact ne_of e (s8 _ _ hv6) (by intro y; cases y)
          have hz6 : vs6.length < sizeLine := by
            rw [hc6.len, g6.len]
            exact small1000 (by omega)
          by_cases hd : 0 < d
          · rw [decide_eq_true hd]
            refine iteT ⟨_, rfl, _, rfl, _, _, rfl, rfl, _, _, _, rfl, by omega, by omega, by decide, by decide, fun H8 e s8 e0 e1 => ⟨_, rfl, (by show 2 ≤ sizeLine; decide), fun t nt => ?_⟩⟩
            have s9 : Same H6 (upd H8 t (.tup [V.int e, V.int se])) := (s7.trans s8).trans (same_upd nt)
            exact ⟨D, _, _, rfl, rfl, s9 _ _ hv6, hz6, fin _ (.ref t) (some (e, some se)) s9 ⟨t, rfl, upd_same⟩ (.inr ⟨e, se, rfl, e0, se0⟩)⟩
          · rw [decide_eq_false hd]
            exact iteF ⟨D, _, _, rfl, rfl, s7 _ _ hv6, hz6, fin _ .non none s7 rfl (.inl rfl)⟩
    · rintro σ H4 ⟨row, v4, v5, v6, v7, rfl, s4, g⟩
      rw [List.length_map] at g
      exact ⟨_, rfl, q H4 D row s4 nD0 g.at_ ⟨g.len, g.src, g.each⟩⟩

end PD

namespace PD
open PySem PySem.Spec PyProof.Rows L2

/-! Phrasedesk, part 6: what is due, told and shown -/
--# law_due_F
theorem getD_nil {fr : List Int} {row : List Cell} {t : Nat} (fo : FrOk fr) (ht : t ≤ fr.length) : decide ((chain fr row t).getD [] = []) = decide (chain fr row t = none) := by
  cases e : chain fr row t with
  | none => rfl
  | some c =>
    have h := (chain_mem fo t c ht e).1
    rw [Option.getD_some, decide_eq_false h, decide_eq_false (by intro z; cases z)]
theorem digs {fr : List Int} {row : List Cell} {t : Nat} {c : List Int} (fo : FrOk fr) (ht : t ≤ fr.length) (e : chain fr row t = some c) : (∀ n ∈ c, 0 ≤ n ∧ n ≤ 9) ∧ c.length ≤ 1000 := by
  have h := chain_mem fo t c ht e
  have := fo.hi
  refine ⟨fun n hn => ?_, by omega⟩
  have := h.2.2 n hn
  omega
def spDueF (C : Addr) : Sp := fun vs H Q _ => ∃ (a : Addr) (fr : List Int) (p : Addr) (row : List Cell) (t : Nat) (y dy : Addr), vs = [.ref a, .ref p, .int (t : Int), .ref y] ∧ Asked H a fr p row t ∧ H y = some (.ins C dy []) ∧
  ∀ H' : Hp, Same H H' → Q (.bl (decide (chain fr row t = none))) H'
theorem sc_law_due : FnScope ["_law_froms_here", "_law_row", "_law_tongue", "_law_found", "_law_chain_here"] ["_law_froms_here", "_law_row", "_law_tongue", "_law_found"] (defScope s_law_due) := ⟨rfl, rfl, rfl, by decide +kernel, rfl, by decide +kernel, by decide +kernel⟩
theorem c_law_due_F {P : Program} {w : World} {K : PySem.W.Frag} {mg : Str → Option Value} {base : Heap} (T : Tx K mg) : CalG P w K mg base 2 "_law_due" (spDueF (He.ga K "Fresh")) := by
  refine calG T.F_law_due T.g_law_due (fun _ _ _ _ _ _ us hl => match us, hl with | [_, _, _, _], _ => rfl) sc_law_due (fun vs H Q E h => ?_) (fun cdv A outer s H vs Q E hgd hr h => ?_)
  · obtain ⟨a, fr, p, row, t, y, dy, rfl, _⟩ := h
    rfl
  · obtain ⟨a, fr, p, row, t, y, dy, rfl, hA, hy, q⟩ := h
    refine ⟨_, (pss_cons (ps_set (i := 4) sc_law_due.nd rfl (Or.inl rfl) (C8.pe_c (c_law_chain T) hr (by decide) rfl (pa_cons (pv 0) (pa_cons (pv 1) (pa_cons (pv 2) pa_nil)))))
    (pss_one (ps_ret (pe_ifExp (pt_val (pe_callB call_isi (by rfl) T.f_isinstance (by decide +kernel) (pa_cons (pv 3) (pa_cons (pe_glob (v := .ref (He.ga K "Fresh")) rfl T.g_Fresh rfl) pa_nil)))) (pe_cmpR (op_eqD hr.units) (pv 4) (pe_lst pa_nil) (nomark _)) (pe_and (pe_cmpR (op_neD hr.units) (pv 4) (pe_lst pa_nil) (nomark _)) (pe_one (pe_cmpR op_eq (pe_callTy (call_strD hgd hr.units) (by rfl) T.f_str (by decide +kernel) (pa_cons (pe_fld (pv 3) (by rfl)) pa_nil)) (pe_callTy (call_strD hgd hr.units) (by rfl) T.f_str (by decide +kernel) (pa_cons (pv 4) pa_nil)) (nomark _)))))))), ?_⟩
    refine ⟨_, rfl, _, rfl, _, rfl, a, fr, p, row, t, rfl, hA, fun H1 l s1 nl hl => ?_⟩
    refine ⟨_, rfl, _, _, _, _, true, rfl, .own _, T.t_Fresh.ty T.k_Fresh (s1 _ _ hy), T.is_Fresh_Fresh, true, rfl, iteT ⟨_, rfl, Nat.zero_le _, fun m nm => ?_⟩⟩
    refine ⟨_, _, dp_ints (hl.same (same_upd nm)), dp_ints (ns := []) upd_same, shaped_ints _, shaped_ints _, qt ?_ (q _ (s1.trans (same_upd nm)))⟩
    rw [eqv_ints, getD_nil hA.fo hA.ht]
--# law_due_O
def spDueO (C : Addr) : Sp := fun vs H Q _ => ∃ (a : Addr) (fr : List Int) (p : Addr) (row : List Cell) (t : Nat) (y l : Addr) (ns : List Int), vs = [.ref a, .ref p, .int (t : Int), .ref y] ∧ Asked H a fr p row t ∧ OldAt C H y l ns ∧ (∀ n ∈ ns, 0 ≤ n ∧ n ≤ 9) ∧ ns.length ≤ 1000 ∧
  ∀ H' : Hp, Same H H' → Q (.bl (decide (chain fr row t = some ns))) H'
theorem dec_str {x y : Str} : decide (V.str x = V.str y) = decide (x = y) := by
  by_cases z : x = y
  · subst z
    simp
  · have z1 : ¬ V.str x = V.str y := fun e => z (V.str.inj e)
    rw [decide_eq_false z1, decide_eq_false z]
theorem c_law_due_O {P : Program} {w : World} {K : PySem.W.Frag} {mg : Str → Option Value} {base : Heap} (T : Tx K mg) : CalG P w K mg base 2 "_law_due" (spDueO (He.ga K "Old")) := by
  refine calG T.F_law_due T.g_law_due (fun _ _ _ _ _ _ us hl => match us, hl with | [_, _, _, _], _ => rfl) sc_law_due (fun vs H Q E h => ?_) (fun cdv A outer s H vs Q E hgd hr h => ?_)
  · obtain ⟨a, fr, p, row, t, y, l, ns, rfl, _⟩ := h
    rfl
  · obtain ⟨a, fr, p, row, t, y, l, ns, rfl, hA, hO, hd, hn, q⟩ := h
    refine ⟨_, (pss_cons (ps_set (i := 4) sc_law_due.nd rfl (Or.inl rfl) (C8.pe_c (c_law_chain T) hr (by decide) rfl (pa_cons (pv 0) (pa_cons (pv 1) (pa_cons (pv 2) pa_nil)))))
    (pss_one (ps_ret (pe_ifExp (pt_val (pe_callB call_isi (by rfl) T.f_isinstance (by decide +kernel) (pa_cons (pv 3) (pa_cons (pe_glob (v := .ref (He.ga K "Fresh")) rfl T.g_Fresh rfl) pa_nil)))) (pe_cmpR (op_eqD hr.units) (pv 4) (pe_lst pa_nil) (nomark _)) (pe_and (pe_cmpR (op_neD hr.units) (pv 4) (pe_lst pa_nil) (nomark _)) (pe_one (pe_cmpR op_eq (pe_callTy (call_strD hgd hr.units) (by rfl) T.f_str (by decide +kernel) (pa_cons (pe_fld (pv 3) (by rfl)) pa_nil)) (pe_callTy (call_strD hgd hr.units) (by rfl) T.f_str (by decide +kernel) (pa_cons (pv 4) pa_nil)) (nomark _)))))))), ?_⟩
    refine ⟨_, rfl, _, rfl, _, rfl, a, fr, p, row, t, rfl, hA, fun H1 k s1 nk hk => ?_⟩
    obtain ⟨dy, ob⟩ := hO.ob
    refine ⟨_, rfl, _, _, _, _, false, rfl, .own _, T.t_Old.ty T.k_Old (s1 _ _ ob), T.is_Old_Fresh, false, rfl, iteF ⟨_, rfl, Nat.zero_le _, fun m nm => ?_⟩⟩
    have s2 : Same H (upd H1 m (.lst [])) := s1.trans (same_upd nm)
    have hk2 := hk.same (same_upd nm (o := .lst []))
    refine ⟨_, _, dp_ints hk2, dp_ints (ns := []) upd_same, shaped_ints _, shaped_ints _, _, rfl, ?_⟩
    rw [eqv_ints, getD_nil hA.fo hA.ht]
    generalize upd H1 m (.lst []) = H2 at s2 hk2 ⊢
    cases e : chain fr row t with
    | none =>
      rw [decide_eq_true rfl]
      refine iteF (qt ?_ (q H2 s2))
      rw [e, decide_eq_false (by intro z; cases z)]
    | some c =>
      rw [e, Option.getD_some] at hk2
      rw [decide_eq_false (by intro z; cases z)]
      obtain ⟨dc, lc⟩ := digs hA.fo hA.ht e
      refine iteT ⟨_, rfl, y, _, dy, _, _, rfl, s2 _ _ ob, T.k_Old, T.n_Old_chain, cfs_at l, l, _, rfl, dp_ints (hO.ls.same s2), show_ints hd, nodict_ints _, ?_, shown_len hd hn, ?_⟩
      · unfold dI
        simp only [PyData.depth, depth_ints]
        decide
      refine ⟨_, rfl, k, _, rfl, dp_ints hk2, show_ints dc, nodict_ints _, ?_, shown_len dc lc, rfl, qt ?_ (q H2 s2)⟩
      · unfold dI
        simp only [PyData.depth, depth_ints]
        decide
      · rw [dec_str, shown_inj hd dc, e]
        by_cases z : ns = c
        · subst z
          simp
        · rw [decide_eq_false z, decide_eq_false fun w => z (Option.some.inj w).symm]
--# _law_right
/-- what an answer is asked with besides -/
structure Oth (H : Hp) (o : Addr) (ts : List Addr) : Prop where
  ls : H o = some (.lst (ts.map V.ref))
  many : ts.length ≤ 100
  each : ∀ u ∈ ts, ∃ (a p : Addr) (fr : List Int) (row : List Cell) (t : Nat), H u = some (.tup [.ref a, .ref p, .int (t : Int)]) ∧ Asked H a fr p row t
theorem Oth.same {H H' : Hp} (s : Same H H') {o : Addr} {ts : List Addr} (h : Oth H o ts) : Oth H' o ts := ⟨s _ _ h.ls, h.many, fun u hu => let ⟨a, p, fr, row, t, h1, h2⟩ := h.each u hu; ⟨a, p, fr, row, t, s _ _ h1, h2.same s⟩⟩
def spRight : Sp := fun vs H Q _ => ∃ (a : Addr) (fr : List Int) (p : Addr) (row : List Cell) (t : Nat) (o : Addr) (ts : List Addr), vs = [.ref a, .ref p, .int (t : Int), .ref o] ∧ Asked H a fr p row t ∧ Oth H o ts ∧ (chain fr row t = none ∨ ∃ c, chain fr row t = some c) ∧
  ∀ H' : Hp, Same H H' → Q (.bl true) H'
def dB (bs : List Bool) : PyData := .list (bs.map .bool)
section
variable {K : PySem.W.Frag} {H : Hp}
theorem dpa_bools : ∀ bs : List Bool, DpAll K H (bs.map V.bl) (bs.map PyData.bool)
  | [] => .nil
  | b :: bs => .cons (.bl b) (dpa_bools bs)
theorem dp_bools {a : Addr} {bs : List Bool} (h : H a = some (.lst (bs.map V.bl))) : Dp K H (.ref a) (dB bs) := .lst (SqL.of h) (dpa_bools bs)
theorem dp_two {a x y p q : Addr} {fr : List Int} {row : List Cell} (h : H a = some (.lst [.ref x, .ref y])) (hx : LsAt H x fr) (hy : RowAt H y row) : Dp K H (.ref a) (.list [dI fr, dRow row]) :=
  .lst (SqL.of h) (.cons (dp_ints hx) (.cons (dp_row hy) .nil))
end
theorem shaped_bools4 (b1 b2 b3 b4 : Bool) : SeqAt.shaped (dB [b1, b2, b3, b4]) = true := by
  unfold SeqAt.shaped dB
  simp only [List.map_cons, List.map_nil, PyData.canLay0, PyData.canLayAll0, PyData.depth, PyData.depthAll]
  decide
theorem shaped_two (fr : List Int) (row : List Cell) : SeqAt.shaped (.list [dI fr, dRow row]) = true := by
  have h1 : (dI fr).canLay0 = true := by
    unfold dI
    simp only [PyData.canLay0, lay_ints]
  have h2 : (dRow row).canLay0 = true := by
    unfold dRow
    simp only [PyData.canLay0, lay_cells]
  have d1 : (dI fr).depth ≤ 1 := by
    unfold dI
    simp only [PyData.depth, depth_ints]
    decide
  have d2 : (dRow row).depth ≤ 2 := by
    unfold dRow
    simp only [PyData.depth]
    have := depth_cells row
    omega
  unfold SeqAt.shaped
  rw [Bool.and_eq_true]
  refine ⟨?_, decide_eq_true ?_⟩
  · simp only [PyData.canLay0, PyData.canLayAll0, h1, h2]
    rfl
  · simp only [PyData.depth, PyData.depthAll]
    omega
theorem eqv_same {d : PyData} (h : SeqAt.shaped d = true) : PyData.eqv d d = true := SeqAt.eqv_refl d (SeqAt.canLay_of_shaped h)
theorem eqv_b4 : PyData.eqv (dB [true, false, false, false]) (dB [true, false, false, false]) = true := by decide
theorem eqv_b4' : PyData.eqv (dB [false, true, false, false]) (dB [false, true, false, false]) = true := by decide
/-- the heap with a new list -/
theorem ls_new {H : Hp} {l : Addr} : LsAt (upd H l (.lst [])) l [] := upd_same
theorem cfs_no (l : Addr) : (cfs l).lookup ("shows" : Str) = none := by
  unfold cfs
  have h : (("shows" : Str) == ("chain" : Str)) = false := by decide +kernel
  simp only [List.lookup, h]
theorem sc_law_right : FnScope ["_law_froms_here", "_law_row", "_law_tongue", "_law_others", "_law_one", "_law_two", "_law_chain_here", "_law_again", "_law_found", "_law_sorts", "_law_some", "_law_more", "_law_place"] ["_law_froms_here", "_law_row", "_law_tongue", "_law_others"] (defScope s_law_right) := ⟨rfl, rfl, rfl, by decide +kernel, rfl, by decide +kernel, by decide +kernel⟩
theorem c_law_right {P : Program} {w : World} {K : PySem.W.Frag} {mg : Str → Option Value} {base : Heap} (T : Tx K mg) : CalG P w K mg base 6 "_law_right" (spRight) := by
  refine calG T.F_law_right T.g_law_right (fun _ _ _ _ _ _ us hl => match us, hl with | [_, _, _, _], _ => rfl) sc_law_right (fun vs H Q E h => ?_) (fun cdv A outer s H vs Q E hgd hr h => ?_)
  · obtain ⟨a, fr, p, row, t, o, ts, rfl, _⟩ := h
    rfl
  · obtain ⟨a, fr, p, row, t, o, ts, rfl, hA, hO, hch, q⟩ := h
    rcases hch with e | ⟨c, e⟩
    · refine ⟨_, (pss_cons (ps_par3 (i := 4) (j := 5) (l := 6) (by rfl) sc_law_right.nd rfl rfl rfl (by decide) (by decide) (by decide) rfl rfl rfl (pa_cons (pe_callTy call_list_of (by rfl) T.f_list (by decide +kernel) (pa_cons (pv 0) pa_nil)) (pa_cons (pe_callTy call_list_of (by rfl) T.f_list (by decide +kernel) (pa_cons (pv 1) pa_nil)) (pa_cons (C8.pe_c (c_law_chain T) hr (by decide) rfl (pa_cons (pv 0) (pa_cons (pv 1) (pa_cons (pv 2) pa_nil)))) pa_nil))) (by rfl))
    (pss_cons (ps_for PassesOwn.never rfl (pi_range1 (by rfl) T.f_range (pa_cons pe_int pa_nil)) (pg_name (i := 7) sc_law_right.nd rfl (Or.inl rfl))
      (pss_cons (ps_set (i := 8) sc_law_right.nd rfl (Or.inl rfl) (C8.pe_c (c_told T) hr (by decide) rfl (pa_cons (pv 4) (pa_cons (pv 5) (pa_cons (pv 2) pa_nil)))))
      (pss_cons (ps_set (i := 9) sc_law_right.nd rfl (Or.inl rfl) (pe_lst (pa_cons (pe_callB call_isi (by rfl) T.f_isinstance (by decide +kernel) (pa_cons (pv 8) (pa_cons (pe_glob (v := .ref (He.ga K "Fresh")) rfl T.g_Fresh rfl) pa_nil))) (pa_cons (pe_callB call_isi (by rfl) T.f_isinstance (by decide +kernel) (pa_cons (pv 8) (pa_cons (pe_glob (v := .ref (He.ga K "Old")) rfl T.g_Old rfl) pa_nil))) (pa_cons (pe_callB call_isi (by rfl) T.f_isinstance (by decide +kernel) (pa_cons (pv 8) (pa_cons (pe_glob (v := .ref (He.ga K "Rounds")) rfl T.g_Rounds rfl) pa_nil))) (pa_cons (pe_callB call_isi (by rfl) T.f_isinstance (by decide +kernel) (pa_cons (pv 8) (pa_cons (pe_glob (v := .ref (He.ga K "Right")) rfl T.g_Right rfl) pa_nil))) pa_nil))))))
      (pss_cons (ps_if (PW.pt (pw_or (pt_not (pt_val (pe_callB call_isi (by rfl) T.f_isinstance (by decide +kernel) (pa_cons (pv 8) (pa_cons (pe_glob (v := .ref (He.ga K "Answer")) rfl T.g_Answer rfl) pa_nil))))) (pw_or1 (pt_cmpR (op_neD hr.units) (pv 9) (pe_lst (pa_cons (pe_cmpR (op_eqD hr.units) (pv 6) (pe_lst pa_nil) (nomark _)) (pa_cons (pe_cmpR (op_neD hr.units) (pv 6) (pe_lst pa_nil) (nomark _)) (pa_cons pe_bl (pa_cons pe_bl pa_nil))))) (nomark _)))))
        (pss_one (ps_ret pe_bl))
        pss_nil)
      (pss_cons (ps_if (PW.pt (pw_or (pt_cmpR (op_neD hr.units) (pe_lst (pa_cons (pv 4) (pa_cons (pv 5) pa_nil))) (pe_lst (pa_cons (pv 0) (pa_cons (pv 1) pa_nil))) (nomark _)) (pw_or (pt_val (pe_callB call_isi (by rfl) T.f_isinstance (by decide +kernel) (pa_cons (pv 8) (pa_cons (pe_glob (v := .ref (He.ga K "Wrong")) rfl T.g_Wrong rfl) pa_nil)))) (pw_or1 (pt_not (pt_val (pe_cG (c_law_due_F T) hgd hr (by decide) rfl (pa_cons (pv 0) (pa_cons (pv 1) (pa_cons (pv 2) (pa_cons (pv 8) pa_nil)))))))))))
        (pss_one (ps_ret pe_bl))
        pss_nil)
      (pss_cons (ps_if (pt_not (pt_val (C8.pe_c (c_law_says T) hr (by decide) rfl (pa_cons (C8.pe_mt (c_Fresh_shows T) hr (by decide) (pv 8) (pa_cons (pv 0) (pa_cons (pv 1) (pa_cons (pv 2) pa_nil)))) (pa_cons pe_bl pa_nil)))))
        (pss_one (ps_ret pe_bl))
        pss_nil)
      (pss_cons (ps_for PassesOwn.never rfl (pi_list (pv 3)) (pg_tup rfl (pgs_cons (pg_name (i := 10) sc_law_right.nd rfl (Or.inl rfl)) (pgs_cons (pg_name (i := 11) sc_law_right.nd rfl (Or.inl rfl)) (pgs_cons (pg_name (i := 12) sc_law_right.nd rfl (Or.inl rfl)) pgs_nil))))
        (pss_one (ps_if (pt_not (pt_val (C8.pe_c (c_law_says T) hr (by decide) rfl (pa_cons (C8.pe_mt (c_Fresh_shows T) hr (by decide) (pv 8) (pa_cons (pv 10) (pa_cons (pv 11) (pa_cons (pv 12) pa_nil)))) (pa_cons (pe_cG (c_law_due_F T) hgd hr (by decide) rfl (pa_cons (pv 10) (pa_cons (pv 11) (pa_cons (pv 12) (pa_cons (pv 8) pa_nil))))) pa_nil)))))
          (pss_one (ps_ret pe_bl))
          pss_nil)))
      (pss_one (ps_if (pt_cmpR (op_neD hr.units) (pv 6) (pe_lst pa_nil) (nomark _))
        (pss_cons (ps_expr (pe_bm PySem.F.plainAttrs_list PySem.F.slot_list_append PySem.F.type_list_append mt_append (pe_fld (pv 8) (by rfl)) (pa_cons pe_int pa_nil)))
        (pss_one (ps_if (pt_cmpR op_notBl (C8.pe_mt (c_Fresh_shows T) hr (by decide) (pv 8) (pa_cons (pv 0) (pa_cons (pv 1) (pa_cons (pv 2) pa_nil)))) pe_bl (nomark _))
          (pss_one (ps_ret pe_bl))
          pss_nil)))
        pss_nil)))))))))
    (pss_one (ps_ret pe_bl)))), ?_⟩
      obtain ⟨vs, hv, hc⟩ := hA.hp
      refine ⟨_, rfl, a, _, rfl, .inl (SqL.of hA.ha), fun one n1 => ?_⟩
      have s1 : Same H (upd H one (.lst (fr.map V.int))) := same_upd n1
      have l1 : LsAt (upd H one (.lst (fr.map V.int))) one fr := upd_same
      generalize upd H one (.lst (fr.map V.int)) = H1 at s1 l1 ⊢
      refine ⟨_, rfl, p, _, rfl, .inl (SqL.of (s1 _ _ hv)), fun two n2 => ?_⟩
      have s2 : Same H1 (upd H1 two (.lst vs)) := same_upd n2
      have r2 : RowAt (upd H1 two (.lst vs)) two row := ⟨vs, upd_same, (hc.same s1).same s2⟩
      generalize upd H1 two (.lst vs) = H2 at s2 r2 ⊢
      have s02 := s1.trans s2
      refine ⟨_, rfl, _, rfl, _, rfl, a, fr, p, row, t, rfl, hA.same s02, fun H3 ch s3 n3 hch => ⟨_, _, _, rfl, ?_⟩⟩
      rw [e] at hch
      have s03 := s02.trans s3
      have l3 := (l1.same s2).same s3
      have r3 := r2.same s3
      have A3 := hA.same s03
      have O3 := hO.same s03
      have B3 : Asked H3 one fr two row t := ⟨l3, hA.fo, r3, hA.ro, hA.ht⟩
      refine ⟨2, rfl, by decide, by decide, ?_⟩
      refine for_range (lo := 0) (n := 2) (fun i σ H4 => ∃ v7 v8 v9 v10 v11 v12 : Option V, σ = [some (.ref a), some (.ref p), some (.int (t : Int)), some (.ref o), some (.ref one), some (.ref two), some (.ref ch), v7, v8, v9, v10, v11, v12] ∧ Same H3 H4) ⟨none, none, none, none, none, none, rfl, Same.refl _⟩ ?_ ?_
      · rintro i σ H4 hi ⟨v7, v8, v9, v10, v11, v12, rfl, s4⟩
        refine ⟨_, rfl, _, rfl, _, rfl, one, fr, two, row, t, rfl, B3.same s4, fun _ H5 y dy s5 ny hy => ?_, fun c ec => by rw [e] at ec; cases ec⟩
        have hF : TyX K H5 (.ref y) (.ref (He.ga K "Fresh")) := T.t_Fresh.ty T.k_Fresh hy
        refine ⟨_, rfl, _, _, _, _, true, rfl, .own _, hF, T.is_Fresh_Fresh, _, rfl, _, _, _, _, false, rfl, .own _, hF, T.is_Fresh_Old, _, rfl, _, _, _, _, false, rfl, .own _, hF, T.is_Fresh_Rounds, _, rfl, _, _, _, _, false, rfl, .own _, hF, T.is_Fresh_Right, (by show 4 ≤ sizeLine; decide), fun so nso => ?_⟩
        have s6 := s5.trans (same_upd nso (o := .lst [V.bl true, V.bl false, V.bl false, V.bl false]))
        have hso : (upd H5 so (.lst [V.bl true, V.bl false, V.bl false, V.bl false])) so = some (.lst ([true, false, false, false].map V.bl)) := upd_same
        have hy6 := same_upd nso (o := .lst [V.bl true, V.bl false, V.bl false, V.bl false]) _ _ hy
        generalize upd H5 so (.lst [V.bl true, V.bl false, V.bl false, V.bl false]) = H6 at s6 hso hy6 ⊢
        have hF6 : TyX K H6 (.ref y) (.ref (He.ga K "Fresh")) := T.t_Fresh.ty T.k_Fresh hy6
        refine ⟨_, rfl, _, _, _, _, true, rfl, .own _, hF6, T.is_Fresh_Answer, true, rfl, iteF ?_⟩
        have c6 : LsAt H6 ch [] := (hch.same s4).same s6
        refine ⟨_, rfl, _, rfl, Nat.zero_le _, fun m1 nm1 => ?_⟩
        have s7 : Same H6 (upd H6 m1 (.lst [])) := same_upd nm1
        refine ⟨_, _, dp_ints (c6.same s7), dp_ints (ns := []) upd_same, shaped_ints _, shaped_ints _, _, rfl, Nat.zero_le _, fun m2 nm2 => ?_⟩
        have s8 : Same (upd H6 m1 (.lst [])) (upd (upd H6 m1 (.lst [])) m2 (.lst [])) := same_upd nm2
        refine ⟨_, _, dp_ints ((c6.same s7).same s8), dp_ints (ns := []) upd_same, shaped_ints _, shaped_ints _, (by show 4 ≤ sizeLine; decide), fun m3 nm3 => ?_⟩
        have s9 := (s7.trans s8).trans (same_upd nm3 (o := .lst [V.bl ((dI []).eqv (dI [])), V.bl !(dI []).eqv (dI []), V.bl false, V.bl false]))
        refine ⟨_, _, dp_bools (bs := [true, false, false, false]) (s9 _ _ hso), dp_bools (bs := [true, false, false, false]) upd_same, shaped_bools4 _ _ _ _, shaped_bools4 _ _ _ _, false, by rw [eqv_b4]; rfl, iteF ?_⟩
        have s10 := s6.trans s9
        have hy10 := s9 _ _ hy6
        generalize upd (upd (upd H6 m1 (.lst [])) m2 (.lst [])) m3 (.lst [V.bl ((dI []).eqv (dI [])), V.bl !(dI []).eqv (dI []), V.bl false, V.bl false]) = H7 at s10 hy10 ⊢
        have s37 := s4.trans s10
        refine ⟨_, rfl, _, rfl, (by show 2 ≤ sizeLine; decide), fun w1 nw1 => ⟨_, rfl, _, rfl, (by show 2 ≤ sizeLine; decide), fun w2 nw2 => ?_⟩⟩
        have s11 := (same_upd nw1 (o := .lst [V.ref one, V.ref two])).trans (same_upd nw2 (o := .lst [V.ref a, V.ref p]))
        have s12 := s37.trans s11
        refine ⟨_, _, dp_two (p := p) (q := p) (same_upd nw2 _ _ upd_same) (l3.same s12) (r3.same s12), dp_two (p := p) (q := p) upd_same (A3.ha.same s12) (A3.hp.same s12), shaped_two _ _, shaped_two _ _, false, by rw [eqv_same (shaped_two fr row)]; rfl, iteF ?_⟩
        have hy12 := s11 _ _ hy10
        generalize upd (upd H7 w1 (.lst [V.ref one, V.ref two])) w2 (.lst [V.ref a, V.ref p]) = H8 at s12 hy12 ⊢
        refine ⟨_, rfl, _, _, _, _, false, rfl, .own _, T.t_Fresh.ty T.k_Fresh hy12, T.is_Fresh_Wrong, false, rfl, iteF ?_⟩
        refine ⟨_, rfl, _, rfl, _, rfl, _, rfl, a, fr, p, row, t, y, dy, rfl, A3.same s12, hy12, fun H9 s13 => ⟨true, by rw [e]; rfl, iteF ?_⟩⟩
        have s39 := s12.trans s13
        have hy9 := s13 _ _ hy12
        refine ⟨_, rfl, y, dy, [], rfl, hy9, rfl, _, rfl, _, rfl, _, rfl, y, a, fr, p, row, t, rfl, A3.same s39, fun H10 s14 => ?_⟩
        refine ⟨_, _, rfl, true, by rw [e]; rfl, iteF ?_⟩
        have s310 := s39.trans s14
        refine ⟨_, rfl, o, rfl, ⟨_, SqL.of (O3.same s310).ls⟩, ?_⟩
        refine for_list (K := K) (a := o) (xs := ts.map V.ref) (fun j σ H11 => ∃ v10 v11 v12 : Option V, σ = [some (.ref a), some (.ref p), some (.int (t : Int)), some (.ref o), some (.ref one), some (.ref two), some (.ref ch), some (.int (0 + (i : Int))), some (.ref y), some (.ref so), v10, v11, v12] ∧ Same H10 H11) ⟨v10, v11, v12, rfl, Same.refl _⟩ (fun j σ H11 _ ⟨_, _, _, _, z⟩ => SqL.of (O3.same (s310.trans z)).ls) ?_ ?_
        · rintro j x σ H11 hx ⟨w10, w11, w12, rfl, s15⟩
          obtain ⟨u, hu, rfl⟩ : ∃ u, ts[j]? = some u ∧ x = V.ref u := by
            rw [List.getElem?_map] at hx
            cases q : ts[j]? with
            | none =>
              rw [q] at hx
              cases hx
            | some u =>
              rw [q] at hx
              exact ⟨u, rfl, (Option.some.inj hx).symm⟩
          have s311 := s310.trans s15
          obtain ⟨a', p', fr', row', t', hu1, hA'⟩ := (O3.same s311).each u (List.mem_of_getElem? hu)
          have hy11 := s15 _ _ (s14 _ _ hy9)
          refine ⟨u, _, rfl, SqT.of hu1, rfl, _, _, rfl, _, _, rfl, _, _, rfl, rfl, ?_⟩
          refine ⟨_, rfl, y, dy, [], rfl, hy11, rfl, _, rfl, _, rfl, _, rfl, y, a', fr', p', row', t', rfl, hA', fun H12 s16 => ?_⟩
          refine ⟨_, rfl, _, rfl, _, rfl, _, rfl, a', fr', p', row', t', y, dy, rfl, hA'.same s16, s16 _ _ hy11, fun H13 s17 => ⟨_, _, rfl, true, by simp, iteF ⟨_, _, _, rfl, (s15.trans s16).trans s17⟩⟩⟩
        · rintro σ H11 ⟨w10, w11, w12, rfl, s15⟩
          have s311 := s310.trans s15
          refine ⟨_, rfl, Nat.zero_le _, fun m nm => ?_⟩
          have s16 : Same H11 (upd H11 m (.lst [])) := same_upd nm
          refine ⟨_, _, dp_ints (((hch.same s311)).same s16), dp_ints (ns := []) upd_same, shaped_ints _, shaped_ints _, false, by rw [eqv_ints]; rfl, iteF ⟨_, _, _, _, _, _, rfl, s311.trans s16⟩⟩
      · rintro σ H4 ⟨v7, v8, v9, v10, v11, v12, rfl, s4⟩
        exact q _ (s03.trans s4)
    · refine ⟨_, (pss_cons (ps_par3 (i := 4) (j := 5) (l := 6) (by rfl) sc_law_right.nd rfl rfl rfl (by decide) (by decide) (by decide) rfl rfl rfl (pa_cons (pe_callTy call_list_of (by rfl) T.f_list (by decide +kernel) (pa_cons (pv 0) pa_nil)) (pa_cons (pe_callTy call_list_of (by rfl) T.f_list (by decide +kernel) (pa_cons (pv 1) pa_nil)) (pa_cons (C8.pe_c (c_law_chain T) hr (by decide) rfl (pa_cons (pv 0) (pa_cons (pv 1) (pa_cons (pv 2) pa_nil)))) pa_nil))) (by rfl))
    (pss_cons (ps_for PassesOwn.never rfl (pi_range1 (by rfl) T.f_range (pa_cons pe_int pa_nil)) (pg_name (i := 7) sc_law_right.nd rfl (Or.inl rfl))
      (pss_cons (ps_set (i := 8) sc_law_right.nd rfl (Or.inl rfl) (C8.pe_c (c_told T) hr (by decide) rfl (pa_cons (pv 4) (pa_cons (pv 5) (pa_cons (pv 2) pa_nil)))))
      (pss_cons (ps_set (i := 9) sc_law_right.nd rfl (Or.inl rfl) (pe_lst (pa_cons (pe_callB call_isi (by rfl) T.f_isinstance (by decide +kernel) (pa_cons (pv 8) (pa_cons (pe_glob (v := .ref (He.ga K "Fresh")) rfl T.g_Fresh rfl) pa_nil))) (pa_cons (pe_callB call_isi (by rfl) T.f_isinstance (by decide +kernel) (pa_cons (pv 8) (pa_cons (pe_glob (v := .ref (He.ga K "Old")) rfl T.g_Old rfl) pa_nil))) (pa_cons (pe_callB call_isi (by rfl) T.f_isinstance (by decide +kernel) (pa_cons (pv 8) (pa_cons (pe_glob (v := .ref (He.ga K "Rounds")) rfl T.g_Rounds rfl) pa_nil))) (pa_cons (pe_callB call_isi (by rfl) T.f_isinstance (by decide +kernel) (pa_cons (pv 8) (pa_cons (pe_glob (v := .ref (He.ga K "Right")) rfl T.g_Right rfl) pa_nil))) pa_nil))))))
      (pss_cons (ps_if (PW.pt (pw_or (pt_not (pt_val (pe_callB call_isi (by rfl) T.f_isinstance (by decide +kernel) (pa_cons (pv 8) (pa_cons (pe_glob (v := .ref (He.ga K "Answer")) rfl T.g_Answer rfl) pa_nil))))) (pw_or1 (pt_cmpR (op_neD hr.units) (pv 9) (pe_lst (pa_cons (pe_cmpR (op_eqD hr.units) (pv 6) (pe_lst pa_nil) (nomark _)) (pa_cons (pe_cmpR (op_neD hr.units) (pv 6) (pe_lst pa_nil) (nomark _)) (pa_cons pe_bl (pa_cons pe_bl pa_nil))))) (nomark _)))))
        (pss_one (ps_ret pe_bl))
        pss_nil)
      (pss_cons (ps_if (PW.pt (pw_or (pt_cmpR (op_neD hr.units) (pe_lst (pa_cons (pv 4) (pa_cons (pv 5) pa_nil))) (pe_lst (pa_cons (pv 0) (pa_cons (pv 1) pa_nil))) (nomark _)) (pw_or (pt_val (pe_callB call_isi (by rfl) T.f_isinstance (by decide +kernel) (pa_cons (pv 8) (pa_cons (pe_glob (v := .ref (He.ga K "Wrong")) rfl T.g_Wrong rfl) pa_nil)))) (pw_or1 (pt_not (pt_val (pe_cG (c_law_due_O T) hgd hr (by decide) rfl (pa_cons (pv 0) (pa_cons (pv 1) (pa_cons (pv 2) (pa_cons (pv 8) pa_nil)))))))))))
        (pss_one (ps_ret pe_bl))
        pss_nil)
      (pss_cons (ps_if (pt_not (pt_val (C8.pe_c (c_law_says T) hr (by decide) rfl (pa_cons (C8.pe_mt (c_Old_shows T) hr (by decide) (pv 8) (pa_cons (pv 0) (pa_cons (pv 1) (pa_cons (pv 2) pa_nil)))) (pa_cons pe_bl pa_nil)))))
        (pss_one (ps_ret pe_bl))
        pss_nil)
      (pss_cons (ps_for PassesOwn.never rfl (pi_list (pv 3)) (pg_tup rfl (pgs_cons (pg_name (i := 10) sc_law_right.nd rfl (Or.inl rfl)) (pgs_cons (pg_name (i := 11) sc_law_right.nd rfl (Or.inl rfl)) (pgs_cons (pg_name (i := 12) sc_law_right.nd rfl (Or.inl rfl)) pgs_nil))))
        (pss_one (ps_if (pt_not (pt_val (C8.pe_c (c_law_says T) hr (by decide) rfl (pa_cons (C8.pe_mt (c_Old_shows T) hr (by decide) (pv 8) (pa_cons (pv 10) (pa_cons (pv 11) (pa_cons (pv 12) pa_nil)))) (pa_cons (pe_cG (c_law_due_O T) hgd hr (by decide) rfl (pa_cons (pv 10) (pa_cons (pv 11) (pa_cons (pv 12) (pa_cons (pv 8) pa_nil))))) pa_nil)))))
          (pss_one (ps_ret pe_bl))
          pss_nil)))
      (pss_one (ps_if (pt_cmpR (op_neD hr.units) (pv 6) (pe_lst pa_nil) (nomark _))
        (pss_cons (ps_expr (pe_bm PySem.F.plainAttrs_list PySem.F.slot_list_append PySem.F.type_list_append mt_append (pe_fld (pv 8) (by rfl)) (pa_cons pe_int pa_nil)))
        (pss_one (ps_if (pt_cmpR op_notBl (C8.pe_mt (c_Old_shows T) hr (by decide) (pv 8) (pa_cons (pv 0) (pa_cons (pv 1) (pa_cons (pv 2) pa_nil)))) pe_bl (nomark _))
          (pss_one (ps_ret pe_bl))
          pss_nil)))
        pss_nil)))))))))
    (pss_one (ps_ret pe_bl)))), ?_⟩
      obtain ⟨vs, hv, hc⟩ := hA.hp
      have cne : c ≠ [] := (chain_mem hA.fo t c hA.ht e).1
      obtain ⟨dc, lc⟩ := digs hA.fo hA.ht e
      have ec0 : (dI c).eqv (dI []) = false := by
        rw [eqv_ints]
        exact decide_eq_false cne
      refine ⟨_, rfl, a, _, rfl, .inl (SqL.of hA.ha), fun one n1 => ?_⟩
      have s1 : Same H (upd H one (.lst (fr.map V.int))) := same_upd n1
      have l1 : LsAt (upd H one (.lst (fr.map V.int))) one fr := upd_same
      generalize upd H one (.lst (fr.map V.int)) = H1 at s1 l1 ⊢
      refine ⟨_, rfl, p, _, rfl, .inl (SqL.of (s1 _ _ hv)), fun two n2 => ?_⟩
      have s2 : Same H1 (upd H1 two (.lst vs)) := same_upd n2
      have r2 : RowAt (upd H1 two (.lst vs)) two row := ⟨vs, upd_same, (hc.same s1).same s2⟩
      generalize upd H1 two (.lst vs) = H2 at s2 r2 ⊢
      have s02 := s1.trans s2
      refine ⟨_, rfl, _, rfl, _, rfl, a, fr, p, row, t, rfl, hA.same s02, fun H3 ch s3 n3 hch => ⟨_, _, _, rfl, ?_⟩⟩
      rw [e, Option.getD_some] at hch
      have s03 := s02.trans s3
      have l3 := (l1.same s2).same s3
      have r3 := r2.same s3
      have A3 := hA.same s03
      have O3 := hO.same s03
      have B3 : Asked H3 one fr two row t := ⟨l3, hA.fo, r3, hA.ro, hA.ht⟩
      refine ⟨2, rfl, by decide, by decide, ?_⟩
      refine for_range (lo := 0) (n := 2) (fun i σ H4 => ∃ v7 v8 v9 v10 v11 v12 : Option V, σ = [some (.ref a), some (.ref p), some (.int (t : Int)), some (.ref o), some (.ref one), some (.ref two), some (.ref ch), v7, v8, v9, v10, v11, v12] ∧ Same H3 H4) ⟨none, none, none, none, none, none, rfl, Same.refl _⟩ ?_ ?_
      · rintro i σ H4 hi ⟨v7, v8, v9, v10, v11, v12, rfl, s4⟩
        refine ⟨_, rfl, _, rfl, _, rfl, one, fr, two, row, t, rfl, B3.same s4, (fun ec => by rw [e] at ec; cases ec), fun c' ec H5 y l s5 ny nl nyl hOld => ?_⟩
        rw [e] at ec
        cases (Option.some.inj ec)
        obtain ⟨dy, hy⟩ := hOld.ob
        have nl3 : H3 l = none := s4.free nl
        have hF : TyX K H5 (.ref y) (.ref (He.ga K "Old")) := T.t_Old.ty T.k_Old hy
        refine ⟨_, rfl, _, _, _, _, false, rfl, .own _, hF, T.is_Old_Fresh, _, rfl, _, _, _, _, true, rfl, .own _, hF, T.is_Old_Old, _, rfl, _, _, _, _, false, rfl, .own _, hF, T.is_Old_Rounds, _, rfl, _, _, _, _, false, rfl, .own _, hF, T.is_Old_Right, (by show 4 ≤ sizeLine; decide), fun so nso => ?_⟩
        have s6 := s5.trans (same_upd nso (o := .lst [V.bl false, V.bl true, V.bl false, V.bl false]))
        have hso : (upd H5 so (.lst [V.bl false, V.bl true, V.bl false, V.bl false])) so = some (.lst ([false, true, false, false].map V.bl)) := upd_same
        have o6 := hOld.same (same_upd nso (o := .lst [V.bl false, V.bl true, V.bl false, V.bl false]))
        generalize upd H5 so (.lst [V.bl false, V.bl true, V.bl false, V.bl false]) = H6 at s6 hso o6 ⊢
        obtain ⟨dy6, hy6⟩ := o6.ob
        have hF6 : TyX K H6 (.ref y) (.ref (He.ga K "Old")) := T.t_Old.ty T.k_Old hy6
        refine ⟨_, rfl, _, _, _, _, true, rfl, .own _, hF6, T.is_Old_Answer, true, rfl, iteF ?_⟩
        have c6 : LsAt H6 ch c := (hch.same s4).same s6
        refine ⟨_, rfl, _, rfl, Nat.zero_le _, fun m1 nm1 => ?_⟩
        have s7 : Same H6 (upd H6 m1 (.lst [])) := same_upd nm1
        refine ⟨_, _, dp_ints (c6.same s7), dp_ints (ns := []) upd_same, shaped_ints _, shaped_ints _, _, rfl, Nat.zero_le _, fun m2 nm2 => ?_⟩
        have s8 : Same (upd H6 m1 (.lst [])) (upd (upd H6 m1 (.lst [])) m2 (.lst [])) := same_upd nm2
        refine ⟨_, _, dp_ints ((c6.same s7).same s8), dp_ints (ns := []) upd_same, shaped_ints _, shaped_ints _, (by show 4 ≤ sizeLine; decide), fun m3 nm3 => ?_⟩
        have s9 := (s7.trans s8).trans (same_upd nm3 (o := .lst [V.bl ((dI c).eqv (dI [])), V.bl !(dI c).eqv (dI []), V.bl false, V.bl false]))
        refine ⟨_, _, dp_bools (bs := [false, true, false, false]) (s9 _ _ hso), dp_bools (bs := [(dI c).eqv (dI []), !(dI c).eqv (dI []), false, false]) upd_same, shaped_bools4 _ _ _ _, shaped_bools4 _ _ _ _, false, by rw [ec0]; rfl, iteF ?_⟩
        have s10 := s6.trans s9
        have o10 := o6.same s9
        generalize upd (upd (upd H6 m1 (.lst [])) m2 (.lst [])) m3 (.lst [V.bl ((dI c).eqv (dI [])), V.bl !(dI c).eqv (dI []), V.bl false, V.bl false]) = H7 at s10 o10 ⊢
        have s37 := s4.trans s10
        refine ⟨_, rfl, _, rfl, (by show 2 ≤ sizeLine; decide), fun w1 nw1 => ⟨_, rfl, _, rfl, (by show 2 ≤ sizeLine; decide), fun w2 nw2 => ?_⟩⟩
        have s11 := (same_upd nw1 (o := .lst [V.ref one, V.ref two])).trans (same_upd nw2 (o := .lst [V.ref a, V.ref p]))
        have s12 := s37.trans s11
        refine ⟨_, _, dp_two (p := p) (q := p) (same_upd nw2 _ _ upd_same) (l3.same s12) (r3.same s12), dp_two (p := p) (q := p) upd_same (A3.ha.same s12) (A3.hp.same s12), shaped_two _ _, shaped_two _ _, false, by rw [eqv_same (shaped_two fr row)]; rfl, iteF ?_⟩
        have o12 := o10.same s11
        generalize upd (upd H7 w1 (.lst [V.ref one, V.ref two])) w2 (.lst [V.ref a, V.ref p]) = H8 at s12 o12 ⊢
        obtain ⟨dy12, hy12⟩ := o12.ob
        refine ⟨_, rfl, _, _, _, _, false, rfl, .own _, T.t_Old.ty T.k_Old hy12, T.is_Old_Wrong, false, rfl, iteF ?_⟩
        refine ⟨_, rfl, _, rfl, _, rfl, _, rfl, a, fr, p, row, t, y, l, c, rfl, A3.same s12, o12, dc, lc, fun H9 s13 => ⟨true, by rw [e, decide_eq_true rfl], iteF ?_⟩⟩
        have s39 := s12.trans s13
        have o9 := o12.same s13
        obtain ⟨dy9, hy9⟩ := o9.ob
        refine ⟨_, rfl, y, dy9, _, rfl, hy9, cfs_no l, _, rfl, _, rfl, _, rfl, y, a, fr, p, row, t, l, c, rfl, A3.same s39, o9, by omega, fun H10 s14 => ?_⟩
        refine ⟨_, _, rfl, true, by rw [e, decide_eq_true rfl]; rfl, iteF ?_⟩
        have s310 := s39.trans s14
        refine ⟨_, rfl, o, rfl, ⟨_, SqL.of (O3.same s310).ls⟩, ?_⟩
        refine for_list (K := K) (a := o) (xs := ts.map V.ref) (fun j σ H11 => ∃ v10 v11 v12 : Option V, σ = [some (.ref a), some (.ref p), some (.int (t : Int)), some (.ref o), some (.ref one), some (.ref two), some (.ref ch), some (.int (0 + (i : Int))), some (.ref y), some (.ref so), v10, v11, v12] ∧ Same H10 H11) ⟨v10, v11, v12, rfl, Same.refl _⟩ (fun j σ H11 _ ⟨_, _, _, _, z⟩ => SqL.of (O3.same (s310.trans z)).ls) ?_ ?_
        · rintro j x σ H11 hx ⟨w10, w11, w12, rfl, s15⟩
          obtain ⟨u, hu, rfl⟩ : ∃ u, ts[j]? = some u ∧ x = V.ref u := by
            rw [List.getElem?_map] at hx
            cases q : ts[j]? with
            | none =>
              rw [q] at hx
              cases hx
            | some u =>
              rw [q] at hx
              exact ⟨u, rfl, (Option.some.inj hx).symm⟩
          have s311 := s310.trans s15
          obtain ⟨a', p', fr', row', t', hu1, hA'⟩ := (O3.same s311).each u (List.mem_of_getElem? hu)
          have o11 := (o9.same s14).same s15
          obtain ⟨dy11, hy11⟩ := o11.ob
          refine ⟨u, _, rfl, SqT.of hu1, rfl, _, _, rfl, _, _, rfl, _, _, rfl, rfl, ?_⟩
          refine ⟨_, rfl, y, dy11, _, rfl, hy11, cfs_no l, _, rfl, _, rfl, _, rfl, y, a', fr', p', row', t', l, c, rfl, hA', o11, by omega, fun H12 s16 => ?_⟩
          refine ⟨_, rfl, _, rfl, _, rfl, _, rfl, a', fr', p', row', t', y, l, c, rfl, hA'.same s16, o11.same s16, dc, lc, fun H13 s17 => ⟨_, _, rfl, true, by simp, iteF ⟨_, _, _, rfl, (s15.trans s16).trans s17⟩⟩⟩
        · rintro σ H11 ⟨w10, w11, w12, rfl, s15⟩
          have s311 := s310.trans s15
          have o11 := (o9.same s14).same s15
          refine ⟨_, rfl, Nat.zero_le _, fun m nm => ?_⟩
          have s16 : Same H11 (upd H11 m (.lst [])) := same_upd nm
          refine ⟨_, _, dp_ints (((hch.same s311)).same s16), dp_ints (ns := []) upd_same, shaped_ints _, shaped_ints _, true, by rw [ec0]; rfl, iteT ?_⟩
          have o12 := o11.same s16
          have s312 := s311.trans s16
          generalize upd H11 m (.lst []) = H12 at o12 s312 ⊢
          obtain ⟨dz, hz⟩ := o12.ob
          have hl := o12.ls
          refine ⟨_, rfl, y, _, dz, _, _, rfl, hz, T.k_Old, T.n_Old_chain, cfs_at l, .inl ⟨rfl, _, SqL.of hl⟩, l, _, _, rfl, rfl, hl, by rw [List.length_map]; exact small1000 lc, ?_⟩
          have s313 : Same H3 (upd H12 l (.lst (c.map V.int ++ [V.int 0]))) := Same.chg s312 nl3
          have o13 : OldAt (He.ga K "Old") (upd H12 l (.lst (c.map V.int ++ [V.int 0]))) y l (c ++ [0]) := by
            refine ⟨⟨dz, by rw [upd_ne nyl]; exact hz⟩, ?_⟩
            unfold LsAt
            rw [upd_same, List.map_append]
            rfl
          generalize upd H12 l (.lst (c.map V.int ++ [V.int 0])) = H14 at o13 s313 ⊢
          obtain ⟨d14, h14⟩ := o13.ob
          refine ⟨_, rfl, y, d14, _, rfl, h14, cfs_no l, _, rfl, _, rfl, _, rfl, y, a, fr, p, row, t, l, c ++ [0], rfl, A3.same s313, o13, by rw [List.length_append, List.length_singleton]; omega, fun H15 s17 => ?_⟩
          have ne : ¬ chain fr row t = some (c ++ [0]) := by
            rw [e]
            intro z
            have := congrArg List.length (Option.some.inj z)
            simp at this
          refine ⟨_, _, rfl, rfl, false, by rw [decide_eq_false ne]; rfl, iteF ⟨_, _, _, _, _, _, rfl, s313.trans s17⟩⟩
      · rintro σ H4 ⟨v7, v8, v9, v10, v11, v12, rfl, s4⟩
        exact q _ (s03.trans s4)

end PD

namespace PD
open PySem PySem.Spec PyProof.Rows L2

/-! Phrasedesk, part 7: states, in place -/
--# _law_state_of
def spState : Sp := fun vs H Q _ => ∃ (a : Addr) (fr : List Int) (p : Addr) (row : List Cell) (t : Nat), vs = [.ref a, .ref p, .int (t : Int)] ∧ Asked H a fr p row t ∧ ∀ (H' : Hp) (l : Addr), Same H H' → H l = none → LsAt H' l ((chain fr row t).getD []) → Q (.ref l) H'
theorem sc_law_state_of : FnScope ["_law_froms_here", "_law_row", "_law_tongue", "_law_found"] ["_law_froms_here", "_law_row", "_law_tongue"] (defScope s_law_state_of) := ⟨rfl, rfl, rfl, by decide +kernel, rfl, by decide +kernel, by decide +kernel⟩
theorem c_law_state_of {P : Program} {w : World} {K : PySem.W.Frag} {mg : Str → Option Value} {base : Heap} (T : Tx K mg) : C8.Cal P w K mg base 6 "_law_state_of" (spState) [] := by
  refine calD T.F_law_state_of T.g_law_state_of (fun _ _ _ _ _ _ us hl => match us, hl with | [_, _, _], _ => rfl) sc_law_state_of (fun vs H Q E h => ?_) (fun cdv A outer s H vs Q E hr h => ?_)
  · obtain ⟨a, fr, p, row, t, rfl, _⟩ := h
    rfl
  · obtain ⟨a, fr, p, row, t, rfl, hA, q⟩ := h
    refine ⟨_, (pss_cons (ps_set (i := 3) sc_law_state_of.nd rfl (Or.inl rfl) (C8.pe_c (c_told T) hr (by decide) rfl (pa_cons (pv 0) (pa_cons (pv 1) (pa_cons (pv 2) pa_nil)))))
    (pss_one (ps_ret (pe_ifExp (pt_val (pe_callB call_isi (by rfl) T.f_isinstance (by decide +kernel) (pa_cons (pv 3) (pa_cons (pe_glob (v := .ref (He.ga K "Old")) rfl T.g_Old rfl) pa_nil)))) (pe_fld (pv 3) (by rfl)) (pe_lst pa_nil))))), ?_⟩
    refine ⟨_, rfl, _, rfl, _, rfl, a, fr, p, row, t, rfl, hA, fun e H1 y dy s1 ny hy => ?_, fun c e H1 y l s1 ny nl nyl hO => ?_⟩
    · refine ⟨_, rfl, _, _, _, _, false, rfl, .own _, T.t_Fresh.ty T.k_Fresh hy, T.is_Fresh_Old, false, rfl, iteF ⟨Nat.zero_le _, fun m nm => ?_⟩⟩
      refine q _ m (s1.trans (same_upd nm)) (s1.free nm) ?_
      rw [e]
      exact upd_same
    · obtain ⟨dy, hy⟩ := hO.ob
      refine ⟨_, rfl, _, _, _, _, true, rfl, .own _, T.t_Old.ty T.k_Old hy, T.is_Old_Old, true, rfl, iteT ⟨_, rfl, y, _, dy, _, _, rfl, hy, T.k_Old, T.n_Old_chain, cfs_at l, ?_⟩⟩
      refine q _ l s1 nl ?_
      rw [e]
      exact hO.ls
/-! ### checks by computing -/
--# _law_changed_right
def frB (fr : List Int) : Bool := decide (1 ≤ fr.length) && (decide (fr.length ≤ 7) && ((List.range fr.length).all fun i => decide (0 ≤ fr.getD i 0) && decide (fr.getD i 0 ≤ (i : Int))))
theorem frB_ok {fr : List Int} (h : frB fr = true) : FrOk fr := by
  unfold frB at h
  obtain ⟨h1, h⟩ := He.ba h
  obtain ⟨h2, h3⟩ := He.ba h
  refine ⟨of_decide_eq_true h1, of_decide_eq_true h2, fun i x e => ?_⟩
  have hi : i < fr.length := (List.getElem?_eq_some_iff.mp e).1
  obtain ⟨h4, h5⟩ := He.ba (List.all_eq_true.mp h3 i (List.mem_range.mpr hi))
  rw [getD_of e] at h4 h5
  exact ⟨of_decide_eq_true h4, of_decide_eq_true h5⟩
def cellB : Cell → Bool
  | none => true
  | some (a, some b) => decide (0 ≤ a) && decide (0 ≤ b)
  | some (_, none) => false
def srcB : Cell → Bool
  | some (a, none) => decide (0 ≤ a)
  | _ => false
def rowB (fr : List Int) : List Cell → Bool
  | [] => false
  | c :: r => srcB c && (decide (r.length = fr.length) && r.all cellB)
theorem rowB_ok {fr : List Int} {row : List Cell} (h : rowB fr row = true) : RowOk fr row := by
  cases row with
  | nil => cases h
  | cons c r =>
    obtain ⟨h1, h⟩ := He.ba (show (srcB c && (decide (r.length = fr.length) && r.all cellB)) = true from h)
    obtain ⟨h2, h3⟩ := He.ba h
    refine ⟨by rw [List.length_cons, of_decide_eq_true h2], ?_, fun i d e => ?_⟩
    · match c, h1 with
      | some (a, none), h1 => exact ⟨a, rfl, of_decide_eq_true h1⟩
    · have e2 : r[i]? = some d := e
      have h4 := List.all_eq_true.mp h3 d (List.mem_of_getElem? e2)
      match d, h4 with
      | none, _ => exact .inl rfl
      | some (a, some b), h4 =>
        obtain ⟨h5, h6⟩ := He.ba (show (decide (0 ≤ a) && decide (0 ≤ b)) = true from h4)
        exact .inr ⟨a, b, rfl, of_decide_eq_true h5, of_decide_eq_true h6⟩
theorem Cells.nil {H : Hp} : Cells H [] [] := ⟨rfl, fun i c e => by simp at e⟩
theorem Cells.cons {H : Hp} {v : V} {c : Cell} {vs : List V} {row : List Cell} (h : CellV H v c) (r : Cells H vs row) : Cells H (v :: vs) (c :: row) := by
  refine ⟨by rw [List.length_cons, List.length_cons, r.len], fun i d e => ?_⟩
  cases i with
  | zero =>
    cases (Option.some.inj e)
    exact ⟨v, rfl, h⟩
  | succ i => exact r.each i d e
/-- a list that is no tuple changes: the cells stay -/
theorem CellV.upd {H : Hp} {v : V} {p : Addr} {xs : List V} {o : HO} (hp : H p = some (.lst xs)) : ∀ {c : Cell}, CellV H v c → CellV (upd H p o) v c
  | none, h => h
  | some (a, b), ⟨q, h1, h2⟩ => ⟨q, h1, by rw [upd_ne (ne_of h2 hp (by intro z; cases z))]; exact h2⟩
theorem Cells.upd {H : Hp} {p : Addr} {xs : List V} {o : HO} (hp : H p = some (.lst xs)) {vs : List V} {row : List Cell} (h : Cells H vs row) : Cells (upd H p o) vs row :=
  ⟨h.len, fun i c e => let ⟨v, h1, h2⟩ := h.each i c e; ⟨v, h1, h2.upd hp⟩⟩
theorem Cells.set0 {H : Hp} {v w : V} {c d : Cell} {vs : List V} {row : List Cell} (h : Cells H (v :: vs) (c :: row)) (hw : CellV H w d) : Cells H (w :: vs) (d :: row) :=
  Cells.cons hw ⟨by have := h.len; simpa using this, fun i e he => h.each (i + 1) e he⟩
/-! ### what _law_changed_right keeps -/
structure Kept (CO : Addr) (H : Hp) (f r ch y lo : Addr) (fr : List Int) (row : List Cell) (css : List (List Int)) : Prop where
  hf : LsAt H f fr
  hr : ∃ v vs, H r = some (.lst (v :: vs)) ∧ Cells H (v :: vs) row
  hc : ∃ cs : List Addr, H ch = some (.lst (cs.map V.ref)) ∧ cs.length = css.length ∧ ∀ (i : Nat) (a : Addr) (c : List Int), cs[i]? = some a → css[i]? = some c → LsAt H a c ∧ a ≠ f ∧ a ≠ r ∧ a ≠ ch
  hy : OldAt CO H y lo [2, 1]
  fr_ : f ≠ r
  fc : f ≠ ch
  rc : r ≠ ch
  lf : lo ≠ f
  lr : lo ≠ r
  lc : lo ≠ ch
section
variable {CO : Addr} {H H' : Hp} {f r ch y lo : Addr} {fr fr' : List Int} {row : List Cell} {css : List (List Int)}
theorem Kept.same (k : Kept CO H f r ch y lo fr row css) (s : Same H H') : Kept CO H' f r ch y lo fr row css := by
  obtain ⟨v, vs, h1, h2⟩ := k.hr
  obtain ⟨cs, h3, h4, h5⟩ := k.hc
  exact ⟨k.hf.same s, ⟨v, vs, s _ _ h1, h2.same s⟩, ⟨cs, s _ _ h3, h4, fun i a c e1 e2 => let ⟨z, w⟩ := h5 i a c e1 e2; ⟨z.same s, w⟩⟩, k.hy.same s, k.fr_, k.fc, k.rc, k.lf, k.lr, k.lc⟩
theorem OldAt.upd {l p : Addr} {ns : List Int} {xs : List V} {o : HO} (h : OldAt CO H y l ns) (hp : H p = some (.lst xs)) (n : l ≠ p) : OldAt CO (upd H p o) y l ns := by
  obtain ⟨d, e⟩ := h.ob
  refine ⟨⟨d, by rw [upd_ne (ne_of e hp (by intro z; cases z))]; exact e⟩, ?_⟩
  unfold LsAt
  rw [upd_ne n]
  exact h.ls
theorem Kept.setF (k : Kept CO H f r ch y lo fr row css) : Kept CO (upd H f (.lst (fr'.map V.int))) f r ch y lo fr' row css := by
  obtain ⟨v, vs, h1, h2⟩ := k.hr
  obtain ⟨cs, h3, h4, h5⟩ := k.hc
  refine ⟨upd_same, ⟨v, vs, by rw [upd_ne k.fr_.symm]; exact h1, h2.upd k.hf⟩, ⟨cs, by rw [upd_ne k.fc.symm]; exact h3, h4, fun i a c e1 e2 => ?_⟩, k.hy.upd k.hf k.lf, k.fr_, k.fc, k.rc, k.lf, k.lr, k.lc⟩
  obtain ⟨z, w⟩ := h5 i a c e1 e2
  refine ⟨?_, w⟩
  unfold LsAt
  rw [upd_ne w.1]
  exact z
theorem Kept.setR {v w : V} {vs : List V} {c d : Cell} {rw_ : List Cell} (k : Kept CO H f r ch y lo fr (c :: rw_) css) (hr : H r = some (.lst (v :: vs))) (hw : CellV H w d) : Kept CO (upd H r (.lst (w :: vs))) f r ch y lo fr (d :: rw_) css := by
  obtain ⟨v', vs', h1, h2⟩ := k.hr
  rw [hr] at h1
  cases (HO.lst.inj (Option.some.inj h1))
  obtain ⟨cs, h3, h4, h5⟩ := k.hc
  refine ⟨by unfold LsAt; rw [upd_ne k.fr_]; exact k.hf, ⟨w, vs, upd_same, (h2.set0 hw).upd hr⟩, ⟨cs, by rw [upd_ne k.rc.symm]; exact h3, h4, fun i a c e1 e2 => ?_⟩, k.hy.upd hr k.lr, k.fr_, k.fc, k.rc, k.lf, k.lr, k.lc⟩
  obtain ⟨z, w⟩ := h5 i a c e1 e2
  refine ⟨?_, w⟩
  unfold LsAt
  rw [upd_ne w.2.1]
  exact z
theorem Kept.add {cs : List V} {a : Addr} {c : List Int} (k : Kept CO H f r ch y lo fr row css) (hc : H ch = some (.lst cs)) (ha : LsAt H a c) (n1 : a ≠ f) (n2 : a ≠ r) (n3 : a ≠ ch) : Kept CO (upd H ch (.lst (cs ++ [V.ref a]))) f r ch y lo fr row (css ++ [c]) := by
  obtain ⟨v, vs, h1, h2⟩ := k.hr
  obtain ⟨cs', h3, h4, h5⟩ := k.hc
  rw [hc] at h3
  cases (HO.lst.inj (Option.some.inj h3))
  refine ⟨by unfold LsAt; rw [upd_ne k.fc]; exact k.hf, ⟨v, vs, by rw [upd_ne k.rc]; exact h1, h2.upd hc⟩, ⟨cs' ++ [a], ?_, by rw [List.length_append, List.length_append, h4]; rfl, fun i b d e1 e2 => ?_⟩, k.hy.upd hc k.lc, k.fr_, k.fc, k.rc, k.lf, k.lr, k.lc⟩
  · rw [upd_same, List.map_append]
    rfl
  · by_cases hi : i < cs'.length
    · rw [List.getElem?_append_left hi] at e1
      rw [List.getElem?_append_left (by omega)] at e2
      obtain ⟨z, w⟩ := h5 i b d e1 e2
      refine ⟨?_, w⟩
      unfold LsAt
      rw [upd_ne w.2.2]
      exact z
    · rw [List.getElem?_append_right (by omega)] at e1
      rw [List.getElem?_append_right (by omega)] at e2
      have ei : i - cs'.length = 0 := by
        by_cases z : i - cs'.length = 0
        · exact z
        · have : i - cs'.length = (i - cs'.length - 1) + 1 := by omega
          rw [this] at e1
          simp at e1
      rw [ei] at e1
      rw [← h4, ei] at e2
      cases (Option.some.inj e1)
      cases (Option.some.inj e2)
      refine ⟨?_, n1, n2, n3⟩
      unfold LsAt
      rw [upd_ne n3]
      exact ha
end
def dLL (css : List (List Int)) : PyData := .list (css.map dI)
/-- refs to lists of ints -/
def Refs (H : Hp) (cs : List V) (css : List (List Int)) : Prop := cs.length = css.length ∧ ∀ (i : Nat) (v : V) (c : List Int), cs[i]? = some v → css[i]? = some c → ∃ a, v = .ref a ∧ LsAt H a c
theorem dpa_refs {K : PySem.W.Frag} {H : Hp} : ∀ {cs : List V} {css : List (List Int)}, Refs H cs css → DpAll K H cs (css.map dI)
  | [], [], _ => .nil
  | [], _ :: _, h => by have := h.1; simp at this
  | _ :: _, [], h => by have := h.1; simp at this
  | v :: cs, c :: css, h => by
    obtain ⟨a, rfl, h1⟩ := h.2 0 v c rfl rfl
    exact .cons (dp_ints h1) (dpa_refs ⟨by have := h.1; simpa using this, fun i v c e1 e2 => h.2 (i + 1) v c e1 e2⟩)
theorem Refs.nil {H : Hp} : Refs H [] [] := ⟨rfl, fun i v c e _ => by simp at e⟩
theorem Refs.cons {H : Hp} {a : Addr} {c : List Int} {cs : List V} {css : List (List Int)} (h : LsAt H a c) (r : Refs H cs css) : Refs H (.ref a :: cs) (c :: css) := by
  refine ⟨by rw [List.length_cons, List.length_cons, r.1], fun i v d e1 e2 => ?_⟩
  cases i with
  | zero =>
    cases (Option.some.inj e1)
    cases (Option.some.inj e2)
    exact ⟨a, rfl, h⟩
  | succ i => exact r.2 i v d e1 e2
theorem Refs.app {H : Hp} : ∀ {cs ds : List V} {css dss : List (List Int)}, Refs H cs css → Refs H ds dss → Refs H (cs ++ ds) (css ++ dss)
  | [], ds, [], dss, _, h => h
  | [], _, _ :: _, _, h, _ => by simp [Refs] at h
  | _ :: _, _, [], _, h, _ => by simp [Refs] at h
  | v :: cs, ds, c :: css, dss, h, h' => by
    obtain ⟨a, rfl, h1⟩ := h.2 0 v c rfl rfl
    exact Refs.cons h1 (Refs.app ⟨by have := h.1; simpa using this, fun i v c e1 e2 => h.2 (i + 1) v c e1 e2⟩ h')
theorem Refs.same {H H' : Hp} (s : Same H H') {cs : List V} {css : List (List Int)} (h : Refs H cs css) : Refs H' cs css := ⟨h.1, fun i v c e1 e2 => let ⟨a, z, w⟩ := h.2 i v c e1 e2; ⟨a, z, w.same s⟩⟩
theorem ls_set {H : Hp} {l : Addr} {ns ms : List Int} (h : ns.map V.int = ms.map V.int) (e : H l = some (.lst (ns.map V.int))) : LsAt H l ms := by
  unfold LsAt
  rw [← h]
  exact e
theorem one3000 : (List.replicate ((3000 : Int).toNat) [V.int 1]).flatten = (List.replicate 3000 (1 : Int)).map V.int := by
  have h : ∀ n : Nat, (List.replicate n [V.int 1]).flatten = (List.replicate n (1 : Int)).map V.int := by
    intro n
    induction n with
    | zero => rfl
    | succ n ih =>
      rw [List.replicate_succ, List.replicate_succ, List.flatten_cons, ih]
      rfl
  exact h 3000
abbrev row0 : List Cell := [some (0, none), some (1, some 0), some (2, some 1)]
abbrev row4 : List Cell := [some (4, none), some (1, some 0), some (2, some 1)]
def spChanged : Sp := fun vs H Q _ => ∃ _ : Unit, vs = [] ∧ ∀ H' : Hp, Same H H' → Q (.bl true) H'
theorem Kept.refs {CO : Addr} {H : Hp} {f r ch y lo : Addr} {fr : List Int} {row : List Cell} {css : List (List Int)} (k : Kept CO H f r ch y lo fr row css) : ∃ cs, H ch = some (.lst cs) ∧ Refs H cs css := by
  obtain ⟨cs, h1, h2, h3⟩ := k.hc
  refine ⟨cs.map V.ref, h1, by rw [List.length_map]; exact h2, fun i v c e1 e2 => ?_⟩
  rw [List.getElem?_map] at e1
  cases q : cs[i]? with
  | none =>
    rw [q] at e1
    cases e1
  | some a =>
    rw [q] at e1
    exact ⟨a, (Option.some.inj e1).symm, (h3 i a c q e2).1⟩
theorem Kept.asked {CO : Addr} {H : Hp} {f r ch y lo : Addr} {fr : List Int} {row : List Cell} {css : List (List Int)} {t : Nat} (k : Kept CO H f r ch y lo fr row css) (h1 : frB fr = true) (h2 : rowB fr row = true) (h3 : t ≤ fr.length) : Asked H f fr r row t :=
  ⟨k.hf, frB_ok h1, let ⟨v, vs, a, b⟩ := k.hr; ⟨v :: vs, a, b⟩, rowB_ok h2, h3⟩
def frs : Nat → List Int
  | 1 => [0, 0]
  | _ => [0, 1]
def csss : Nat → List (List Int)
  | 0 => [[]]
  | 1 => [[], [2]]
  | _ => [[], [2], []]
theorem ix0 {v : V} {vs : List V} : ixN (v :: vs).length 0 = some 0 := by
  unfold ixN
  rw [if_pos (by decide), if_pos (by rw [List.length_cons]; omega)]
  rfl
abbrev csT : List (List Int) := [[2, 1], [1], []]
abbrev csA : List (List Int) := [[], [2], [], [2, 1], [1], []]
theorem sc_law_changed_right : FnScope ["_law_froms_here", "_law_row", "_law_chains", "_law_old", "_law_tongue"] [] (defScope s_law_changed_right) := ⟨rfl, rfl, rfl, by decide +kernel, rfl, by decide +kernel, by decide +kernel⟩
theorem c_law_changed_right {P : Program} {w : World} {K : PySem.W.Frag} {mg : Str → Option Value} {base : Heap} (T : Tx K mg) : C8.Cal P w K mg base 7 "_law_changed_right" (spChanged) [] := by
  refine calD T.F_law_changed_right T.g_law_changed_right (fun _ _ _ _ _ _ us hl => match us, hl with | [], _ => rfl) sc_law_changed_right (fun vs H Q E h => ?_) (fun cdv A outer s H vs Q E hr h => ?_)
  · obtain ⟨u, rfl, _⟩ := h
    rfl
  · obtain ⟨u, rfl, q⟩ := h
    refine ⟨_, (pss_cons (ps_asg (pe_tup (pa_cons (pe_lst (pa_cons pe_int (pa_cons pe_int pa_nil))) (pa_cons (pe_lst (pa_cons (pe_tup (pa_cons pe_int (pa_cons pe_non pa_nil))) (pa_cons (pe_tup (pa_cons pe_int (pa_cons pe_int pa_nil))) (pa_cons (pe_tup (pa_cons pe_int (pa_cons pe_int pa_nil))) pa_nil)))) pa_nil))) (pg_tup rfl (pgs_cons (pg_name (i := 0) sc_law_changed_right.nd rfl (Or.inr rfl)) (pgs_cons (pg_name (i := 1) sc_law_changed_right.nd rfl (Or.inr rfl)) pgs_nil))))
    (pss_cons (ps_par (i := 2) (j := 3) (by rfl) sc_law_changed_right.nd rfl rfl (by decide) rfl rfl (pa_cons (pe_lst (pa_cons (C8.pe_c (c_law_state_of T) hr (by decide) rfl (pa_cons (pv 0) (pa_cons (pv 1) (pa_cons pe_int pa_nil)))) pa_nil)) (pa_cons (C8.pe_mk (c_Old_init T) hr (by decide) rfl (pa_cons (pe_lst (pa_cons pe_int (pa_cons pe_int pa_nil))) pa_nil)) pa_nil)) (by rfl))
    (pss_cons (ps_for PassesOwn.never rfl (pi_tup (pe_tup (pa_cons pe_int (pa_cons pe_int pa_nil)))) (pg_name (i := 4) sc_law_changed_right.nd rfl (Or.inl rfl))
      (pss_cons (ps_asg (pv 4) (pg_sub (pv 0) pe_int set_list))
      (pss_one (ps_expr (pe_bm PySem.F.plainAttrs_list PySem.F.slot_list_append PySem.F.type_list_append mt_append (pv 2) (pa_cons (C8.pe_c (c_law_state_of T) hr (by decide) rfl (pa_cons (pv 0) (pa_cons (pv 1) (pa_cons pe_int pa_nil)))) pa_nil))))))
    (pss_cons (ps_asg (pe_tup (pa_cons pe_int (pa_cons pe_non pa_nil))) (pg_sub (pv 1) pe_int set_list))
    (pss_cons (ps_set (i := 2) sc_law_changed_right.nd rfl (Or.inl rfl) (pe_op op_cat (pv 2) (pe_lc (own := [("_law_tongue", 4)]) (g := gName 4) (tt := tYes) (by rfl) sc_law_changed_right.nd (pi_tup (pe_tup (pa_cons pe_int (pa_cons pe_int (pa_cons pe_int pa_nil))))) (blkOk_by (own := [("_law_tongue", 4)]) (N := ["_law_froms_here", "_law_row", "_law_chains", "_law_old", "_law_tongue"]) (sc := defScope s_law_changed_right) (by decide +kernel)) (fun _ _ _ _ _ => (pg_name (i := 4) sc_law_changed_right.nd rfl (Or.inl rfl))) (fun _ _ _ _ _ => pts_nil) (fun _ _ _ _ _ => (C8.pe_c (c_law_state_of T) hr (by decide) rfl (pa_cons (pv 0) (pa_cons (pv 1) (pa_cons (pv 4) pa_nil))))))))
    (pss_cons (ps_if (PW.pt (pw_or (pt_cmpR op_notBl (C8.pe_mt (c_Old_shows T) hr (by decide) (pv 3) (pa_cons (pv 0) (pa_cons (pv 1) (pa_cons pe_int pa_nil)))) pe_bl (nomark _)) (pw_or1 (pt_cmpR (op_neD hr.units) (pv 2) (pe_lst (pa_cons (pe_lst pa_nil) (pa_cons (pe_lst (pa_cons pe_int pa_nil)) (pa_cons (pe_lst pa_nil) (pa_cons (pe_lst (pa_cons pe_int (pa_cons pe_int pa_nil))) (pa_cons (pe_lst (pa_cons pe_int pa_nil)) (pa_cons (pe_lst pa_nil) pa_nil))))))) (nomark _)))))
      (pss_one (ps_ret pe_bl))
      pss_nil)
    (pss_cons (ps_asg (pe_tup (pa_cons pe_int (pa_cons pe_non pa_nil))) (pg_sub (pv 1) pe_int set_list))
    (pss_one (ps_ret (pe_and (pe_cmpR op_isBl (C8.pe_mt (c_Old_shows T) hr (by decide) (pv 3) (pa_cons (pv 0) (pa_cons (pv 1) (pa_cons pe_int pa_nil)))) pe_bl (nomark _)) (pe_one (pe_not (C8.pe_mt (c_Old_shows T) hr (by decide) (C8.pe_mk (c_Old_init T) hr (by decide) rfl (pa_cons (pe_op op_rep (pe_lst (pa_cons pe_int pa_nil)) pe_int) pa_nil)) (pa_cons (pe_lst (pa_cons pe_int pa_nil)) (pa_cons (pe_lst (pa_cons (pe_tup (pa_cons pe_int (pa_cons pe_non pa_nil))) (pa_cons pe_non pa_nil))) (pa_cons pe_int pa_nil)))))))))))))))), ?_⟩
    -- froms, row
    refine ⟨(by show 2 ≤ sizeLine; decide), fun f nf => ?_⟩
    have lf : LsAt (upd H f (.lst [V.int 0, V.int 1])) f [0, 1] := upd_same
    have s1 : Same H (upd H f (.lst [V.int 0, V.int 1])) := same_upd nf
    generalize upd H f (.lst [V.int 0, V.int 1]) = H1 at lf s1 ⊢
    refine ⟨(by show 2 ≤ sizeLine; decide), fun p0 np0 => ?_⟩
    have k0 : CellV (upd H1 p0 (.tup [V.int 0, V.non])) (.ref p0) (some (0, none)) := ⟨p0, rfl, upd_same⟩
    have t1 : Same H1 (upd H1 p0 (.tup [V.int 0, V.non])) := same_upd np0
    generalize upd H1 p0 (.tup [V.int 0, V.non]) = H2 at k0 t1 ⊢
    refine ⟨(by show 2 ≤ sizeLine; decide), fun p1 np1 => ?_⟩
    have k1 : CellV (upd H2 p1 (.tup [V.int 1, V.int 0])) (.ref p1) (some (1, some 0)) := ⟨p1, rfl, upd_same⟩
    have t2 : Same H2 (upd H2 p1 (.tup [V.int 1, V.int 0])) := same_upd np1
    generalize upd H2 p1 (.tup [V.int 1, V.int 0]) = H3 at k1 t2 ⊢
    refine ⟨(by show 2 ≤ sizeLine; decide), fun p2 np2 => ?_⟩
    have k2 : CellV (upd H3 p2 (.tup [V.int 2, V.int 1])) (.ref p2) (some (2, some 1)) := ⟨p2, rfl, upd_same⟩
    have t3 : Same H3 (upd H3 p2 (.tup [V.int 2, V.int 1])) := same_upd np2
    generalize upd H3 p2 (.tup [V.int 2, V.int 1]) = H4 at k2 t3 ⊢
    refine ⟨(by show 3 ≤ sizeLine; decide), fun r nr => ?_⟩
    have t4 : Same H4 (upd H4 r (.lst [V.ref p0, V.ref p1, V.ref p2])) := same_upd nr
    have hr : (upd H4 r (.lst [V.ref p0, V.ref p1, V.ref p2])) r = some (.lst [V.ref p0, V.ref p1, V.ref p2]) := upd_same
    have hcs : Cells (upd H4 r (.lst [V.ref p0, V.ref p1, V.ref p2])) [V.ref p0, V.ref p1, V.ref p2] row0 :=
      .cons (((k0.same t2).same t3).same t4) (.cons ((k1.same t3).same t4) (.cons (k2.same t4) .nil))
    have s5 := (((s1.trans t1).trans t2).trans t3).trans t4
    have lf5 := (((lf.same t1).same t2).same t3).same t4
    have nfr : f ≠ r := ne_of_none (((lf.same t1).same t2).same t3) nr
    have nr0 : H r = none := (((s1.trans t1).trans t2).trans t3).free nr
    generalize upd H4 r (.lst [V.ref p0, V.ref p1, V.ref p2]) = H5 at t4 hr hcs s5 lf5 ⊢
    refine ⟨(by show 2 ≤ sizeLine; decide), fun tt ntt => ⟨tt, _, rfl, SqT.of upd_same, rfl, _, _, rfl, _, _, rfl, rfl, ?_⟩⟩
    have t6 : Same H5 (upd H5 tt (.tup [V.ref f, V.ref r])) := same_upd ntt
    have s6 := s5.trans t6
    have lf6 := lf5.same t6
    have hr6 := t6 _ _ hr
    have hcs6 := hcs.same t6
    generalize upd H5 tt (.tup [V.ref f, V.ref r]) = H6 at s6 lf6 hr6 hcs6 ⊢
    -- chains, old
    have A6 : Asked H6 f [0, 1] r row0 2 := ⟨lf6, frB_ok (by decide), ⟨_, hr6, hcs6⟩, rowB_ok (by decide), by decide⟩
    refine ⟨_, rfl, _, rfl, f, [0, 1], r, row0, 2, rfl, A6, fun H7 c0 s7 nc0 hc0 => ⟨(by show 1 ≤ sizeLine; decide), fun ch nch => ?_⟩⟩
    have hc0' : LsAt H7 c0 [] := hc0
    have t8 : Same H7 (upd H7 ch (.lst [V.ref c0])) := same_upd nch
    have hch : (upd H7 ch (.lst [V.ref c0])) ch = some (.lst [V.ref c0]) := upd_same
    have s08 := (s6.trans s7).trans t8
    have s68 := s7.trans t8
    have lc8 := hc0'.same t8
    have nc0c : c0 ≠ ch := ne_of_none hc0' nch
    have n0f : c0 ≠ f := fun z => by rw [z, lf6] at nc0; cases nc0
    have n0r : c0 ≠ r := fun z => by rw [z, hr6] at nc0; cases nc0
    have nfc : f ≠ ch := ne_of_none (lf6.same s7) nch
    have nrc : r ≠ ch := ne_of_none (s7 _ _ hr6) nch
    have nch0 : H ch = none := (s6.trans s7).free nch
    generalize upd H7 ch (.lst [V.ref c0]) = H8 at t8 hch s08 s68 lc8 ⊢
    refine ⟨(by show 2 ≤ sizeLine; decide), fun w nw => ?_⟩
    have hw : LsAt (upd H8 w (.lst [V.int 2, V.int 1])) w [2, 1] := upd_same
    have t9 : Same H8 (upd H8 w (.lst [V.int 2, V.int 1])) := same_upd nw
    generalize upd H8 w (.lst [V.int 2, V.int 1]) = H9 at hw t9 ⊢
    intro y dy ny ndy hne
    have tN : Same H9 (upd (upd H9 dy (.own y)) y (.ins (He.ga K "Old") dy [])) := fun b o z => by
      rw [upd_ne (ne_of_none z ny), upd_ne (ne_of_none z ndy)]
      exact z
    refine ⟨y, dy, w, [2, 1], rfl, upd_same, hw.same tN, by decide, fun H10 lo nlo hlo hy kp => ⟨rfl, _, _, rfl, ?_⟩⟩
    have t10 : Same H9 H10 := fun b o z => kp b o (tN _ _ z) (ne_of_none z ny)
    have s810 := t9.trans t10
    have s010 := s08.trans s810
    have s9N := t9.trans tN
    have nlf : lo ≠ f := (ne_of_none (s9N _ _ (lf6.same s68)) nlo).symm
    have nlr : lo ≠ r := (ne_of_none (s9N _ _ (s68 _ _ hr6)) nlo).symm
    have nlc : lo ≠ ch := (ne_of_none (s9N _ _ hch) nlo).symm
    have K0 : Kept (He.ga K "Old") H10 f r ch y lo [0, 1] row0 [[]] := by
      refine ⟨(lf6.same s68).same s810, ⟨_, _, s810 _ _ (s68 _ _ hr6), (hcs6.same s68).same s810⟩, ⟨[c0], s810 _ _ hch, rfl, fun i a c e1 e2 => ?_⟩, ⟨⟨dy, hy⟩, hlo⟩, nfr, nfc, nrc, nlf, nlr, nlc⟩
      cases i with
      | zero =>
        cases (Option.some.inj e1)
        cases (Option.some.inj e2)
        exact ⟨lc8.same s810, n0f, n0r, nc0c⟩
      | succ i => simp at e1
    -- the loop
    refine ⟨(by show 2 ≤ sizeLine; decide), fun tp ntp => ⟨tp, rfl, ⟨_, SqT.of upd_same⟩, ?_⟩⟩
    have tT : Same H10 (upd H10 tp (.tup [V.int 0, V.int 1])) := same_upd ntp
    have hT : (upd H10 tp (.tup [V.int 0, V.int 1])) tp = some (.tup [V.int 0, V.int 1]) := upd_same
    have nf0 : H f = none := nf
    refine for_tup (K := K) (a := tp) (xs := [V.int 0, V.int 1]) (fun i σ H11 => ∃ v4 : Option V, σ = [some (.ref f), some (.ref r), some (.ref ch), some (.ref y), v4] ∧ Same H H11 ∧ H11 tp = some (.tup [V.int 0, V.int 1]) ∧ Kept (He.ga K "Old") H11 f r ch y lo (frs i) row0 (csss i))
      ⟨none, rfl, s010.trans tT, hT, K0.same tT⟩ (fun i σ H11 _ ⟨_, _, _, z, _⟩ => SqT.of z) ?_ ?_
    · rintro i x σ H11 hx ⟨v4, rfl, s11, h11, k11⟩
      match i, hx with
      | 0, hx =>
        cases (Option.some.inj hx)
        refine ⟨_, rfl, _, rfl, f, _, _, 1, rfl, rfl, k11.hf, rfl, ?_⟩
        have k12 : Kept (He.ga K "Old") (upd H11 f (.lst ([0, 0].map V.int))) f r ch y lo [0, 0] row0 [[]] := k11.setF
        have s12 : Same H (upd H11 f (.lst ([0, 0].map V.int))) := Same.chg s11 nf0
        have h12 : (upd H11 f (.lst ([0, 0].map V.int))) tp = some (.tup [V.int 0, V.int 1]) := by rw [upd_ne (ne_of h11 k11.hf (by intro z; cases z))]; exact h11
        have e12 : upd H11 f (.lst (((frs 0).map V.int).set 1 (V.int 0))) = upd H11 f (.lst ([0, 0].map V.int)) := rfl
        rw [e12]
        generalize upd H11 f (.lst ([0, 0].map V.int)) = H12 at k12 s12 h12 ⊢
        obtain ⟨cs, hcs, rcs⟩ := k12.refs
        have hcl : cs.length < sizeLine := by rw [rcs.1]; decide
        refine ⟨_, rfl, .inl ⟨rfl, _, SqL.of hcs⟩, _, rfl, _, rfl, f, [0, 0], r, row0, 2, rfl, k12.asked (by decide) (by decide) (by decide), fun H13 l s13 nl hl => ?_⟩
        have hl' : LsAt H13 l [2] := hl
        refine ⟨ch, _, _, rfl, rfl, s13 _ _ hcs, hcl, ?_⟩
        have k13 := k12.same s13
        refine ⟨_, rfl, Same.chg (s12.trans s13) nch0, by rw [upd_ne (ne_of (s13 _ _ h12) (s13 _ _ hcs) (by intro z; cases z))]; exact s13 _ _ h12, k13.add (s13 _ _ hcs) hl' (fun z => ?_) (fun z => ?_) (fun z => ?_)⟩
        · rw [z, k12.hf] at nl; cases nl
        · obtain ⟨v, vs, a1, _⟩ := k12.hr
          rw [z, a1] at nl; cases nl
        · rw [z, hcs] at nl; cases nl
      | 1, hx =>
        cases (Option.some.inj hx)
        refine ⟨_, rfl, _, rfl, f, _, _, 1, rfl, rfl, k11.hf, rfl, ?_⟩
        have k12 : Kept (He.ga K "Old") (upd H11 f (.lst ([0, 1].map V.int))) f r ch y lo [0, 1] row0 [[], [2]] := k11.setF
        have s12 : Same H (upd H11 f (.lst ([0, 1].map V.int))) := Same.chg s11 nf0
        have h12 : (upd H11 f (.lst ([0, 1].map V.int))) tp = some (.tup [V.int 0, V.int 1]) := by rw [upd_ne (ne_of h11 k11.hf (by intro z; cases z))]; exact h11
        have e12 : upd H11 f (.lst (((frs 1).map V.int).set 1 (V.int 1))) = upd H11 f (.lst ([0, 1].map V.int)) := rfl
        rw [e12]
        generalize upd H11 f (.lst ([0, 1].map V.int)) = H12 at k12 s12 h12 ⊢
        obtain ⟨cs, hcs, rcs⟩ := k12.refs
        have hcl : cs.length < sizeLine := by rw [rcs.1]; decide
        refine ⟨_, rfl, .inl ⟨rfl, _, SqL.of hcs⟩, _, rfl, _, rfl, f, [0, 1], r, row0, 2, rfl, k12.asked (by decide) (by decide) (by decide), fun H13 l s13 nl hl => ?_⟩
        have hl' : LsAt H13 l [] := hl
        refine ⟨ch, _, _, rfl, rfl, s13 _ _ hcs, hcl, ?_⟩
        have k13 := k12.same s13
        refine ⟨_, rfl, Same.chg (s12.trans s13) nch0, by rw [upd_ne (ne_of (s13 _ _ h12) (s13 _ _ hcs) (by intro z; cases z))]; exact s13 _ _ h12, k13.add (s13 _ _ hcs) hl' (fun z => ?_) (fun z => ?_) (fun z => ?_)⟩
        · rw [z, k12.hf] at nl; cases nl
        · obtain ⟨v, vs, a1, _⟩ := k12.hr
          rw [z, a1] at nl; cases nl
        · rw [z, hcs] at nl; cases nl
      | i + 2, hx => simp at hx
    · rintro σ H11 ⟨v4, rfl, s11, h11, k11⟩
      have k11' : Kept (He.ga K "Old") H11 f r ch y lo [0, 1] row0 [[], [2], []] := k11
      -- row[0] = (4, None)
      refine ⟨(by show 2 ≤ sizeLine; decide), fun p4 np4 => ?_⟩
      have c4 : CellV (upd H11 p4 (.tup [V.int 4, V.non])) (.ref p4) (some (4, none)) := ⟨p4, rfl, upd_same⟩
      have t12 : Same H11 (upd H11 p4 (.tup [V.int 4, V.non])) := same_upd np4
      have k12 := k11'.same t12
      have s12 := s11.trans t12
      generalize upd H11 p4 (.tup [V.int 4, V.non]) = H12 at c4 k12 s12 ⊢
      obtain ⟨rv, rvs, hrv, _⟩ := k12.hr
      refine ⟨_, rfl, r, _, _, 0, rfl, rfl, hrv, ix0, ?_⟩
      have k13 : Kept (He.ga K "Old") (upd H12 r (.lst (V.ref p4 :: rvs))) f r ch y lo [0, 1] row4 [[], [2], []] := k12.setR hrv c4
      have s13 : Same H (upd H12 r (.lst (V.ref p4 :: rvs))) := Same.chg s12 nr0
      have e13 : upd H12 r (.lst ((rv :: rvs).set 0 (V.ref p4))) = upd H12 r (.lst (V.ref p4 :: rvs)) := rfl
      rw [e13]
      generalize upd H12 r (.lst (V.ref p4 :: rvs)) = H13 at k13 s13 ⊢
      -- chains + [..]
      obtain ⟨cs, hcs, rcs⟩ := k13.refs
      refine ⟨_, rfl, (by show 3 ≤ sizeLine; decide), fun tq ntq => ⟨tq, rfl, ⟨_, SqT.of upd_same⟩, fun D nD => ?_⟩⟩
      have t14 : Same H13 (upd H13 tq (.tup [V.int 2, V.int 1, V.int 0])) := same_upd ntq
      have hq14 : (upd H13 tq (.tup [V.int 2, V.int 1, V.int 0])) tq = some (.tup [V.int 2, V.int 1, V.int 0]) := upd_same
      generalize upd H13 tq (.tup [V.int 2, V.int 1, V.int 0]) = H14 at t14 hq14 nD ⊢
      have k14 := k13.same t14
      have hcs14 := t14 _ _ hcs
      have rcs14 := rcs.same t14
      have s14 := s13.trans t14
      refine lc_tup (K := K) (a := tq) (xs := [V.int 2, V.int 1, V.int 0]) (fun i H15 => Same H14 H15 ∧ ∃ ds, H15 D = some (.lst ds) ∧ Refs H15 ds (csT.take i) ∧ ∀ a, V.ref a ∈ ds → a ≠ D) ⟨same_upd nD, _, upd_same, Refs.nil, fun a z => by simp at z⟩ (fun i H15 _ z => SqT.of (z.1 _ _ hq14)) ?_ ?_
      · rintro i x H15 hx ⟨s15, ds, hD, rds, nds⟩
        have k15 := k14.same s15
        have go : ∀ (t : Nat) (c : List Int), x = .int (t : Int) → t ≤ 2 → (chain [0, 1] row4 t).getD [] = c → csT.take (i + 1) = csT.take i ++ [c] → ds.length < sizeLine →
            tCall spState [] C8.E0 (tCons (tVar 0) (tCons (tVar 1) (tCons (tVar 4) tNil))) [some (V.ref f), some (V.ref r), some (V.ref ch), some (V.ref y), some x] H15 fun yv H4 => ∃ acc, H4 D = some (.lst acc) ∧ acc.length < sizeLine ∧ (Same H14 (upd H4 D (.lst (acc ++ [yv]))) ∧ ∃ ds, (upd H4 D (.lst (acc ++ [yv]))) D = some (.lst ds) ∧ Refs (upd H4 D (.lst (acc ++ [yv]))) ds (csT.take (i + 1)) ∧ ∀ a, V.ref a ∈ ds → a ≠ D) := by
          intro t c ex ht ec et hz
          subst ex
          refine ⟨_, rfl, _, rfl, _, rfl, f, [0, 1], r, row4, t, rfl, k15.asked (by decide) (by decide) (by show t ≤ 2; exact ht), fun H16 l s16 nl hl => ?_⟩
          rw [ec] at hl
          have nlD : l ≠ D := (ne_of_none hD nl).symm
          refine ⟨ds, s16 _ _ hD, hz, Same.chg (s15.trans s16) nD, _, upd_same, ?_, fun a z => ?_⟩
          · rw [et]
            have r16 := rds.same s16
            refine Refs.app ⟨r16.1, fun j v d e1 e2 => ?_⟩ (Refs.cons (by unfold LsAt; rw [upd_ne nlD]; exact hl) Refs.nil)
            obtain ⟨b, z1, z2⟩ := r16.2 j v d e1 e2
            refine ⟨b, z1, ?_⟩
            unfold LsAt
            rw [upd_ne (nds b (by rw [← z1]; exact List.mem_of_getElem? e1))]
            exact z2
          · rcases List.mem_append.mp z with z | z
            · exact nds a z
            · have : a = l := by simpa using z
              rw [this]
              exact nlD
        have hz : ds.length < sizeLine := by
          rw [rds.1, List.length_take]
          exact Nat.lt_of_le_of_lt (Nat.min_le_right _ _) (by decide)
        match i, hx with
        | 0, hx =>
          cases (Option.some.inj hx)
          exact ⟨rfl, go 2 [2, 1] rfl (by decide) (by decide) rfl hz⟩
        | 1, hx =>
          cases (Option.some.inj hx)
          exact ⟨rfl, go 1 [1] rfl (by decide) (by decide) rfl hz⟩
        | 2, hx =>
          cases (Option.some.inj hx)
          exact ⟨rfl, go 0 [] rfl (by decide) (by decide) rfl hz⟩
        | i + 3, hx => simp at hx
      · rintro H15 ⟨s15, ds, hD, rds, nds⟩
        have k15 := k14.same s15
        have s015 := s14.trans s15
        have rds' : Refs H15 ds csT := rds
        refine ⟨ch, D, _, _, rfl, rfl, s15 _ _ hcs14, hD, by rw [rcs14.1, rds'.1]; decide, fun cl ncl => ?_⟩
        have t16 : Same H15 (upd H15 cl (.lst (cs ++ ds))) := same_upd ncl
        have hcl : (upd H15 cl (.lst (cs ++ ds))) cl = some (.lst (cs ++ ds)) := upd_same
        have rall : Refs (upd H15 cl (.lst (cs ++ ds))) (cs ++ ds) csA := ((rcs14.same s15).same t16).app (rds'.same t16)
        have k16 := k15.same t16
        have s016 := s015.trans t16
        generalize upd H15 cl (.lst (cs ++ ds)) = H16 at hcl rall k16 s016 ⊢
        obtain ⟨d16, h16⟩ := k16.hy.ob
        refine ⟨_, rfl, y, d16, _, rfl, h16, cfs_no lo, _, rfl, _, rfl, y, f, [0, 1], r, row4, 2, lo, [2, 1], rfl, k16.asked (by decide) (by decide) (by decide), k16.hy, by decide, fun H17 s17 => ?_⟩
        refine ⟨_, _, rfl, rfl, false, by decide, iteF ?_⟩
        have k17 := k16.same s17
        have s017 := s016.trans s17
        have hcl17 := s17 _ _ hcl
        have r17 := rall.same s17
        refine ⟨_, rfl, Nat.zero_le _, fun m1 nm1 => ⟨(by show 1 ≤ sizeLine; decide), fun m2 nm2 => ⟨Nat.zero_le _, fun m3 nm3 => ⟨(by show 2 ≤ sizeLine; decide), fun m4 nm4 => ⟨(by show 1 ≤ sizeLine; decide), fun m5 nm5 => ⟨Nat.zero_le _, fun m6 nm6 => ⟨(by show 6 ≤ sizeLine; decide), fun m7 nm7 => ?_⟩⟩⟩⟩⟩⟩⟩
        have u1 := same_upd nm1 (o := .lst [])
        have u2 := same_upd nm2 (o := .lst [V.int 2])
        have u3 := same_upd nm3 (o := .lst [])
        have u4 := same_upd nm4 (o := .lst [V.int 2, V.int 1])
        have u5 := same_upd nm5 (o := .lst [V.int 1])
        have u6 := same_upd nm6 (o := .lst [])
        have u7 := same_upd nm7 (o := .lst [V.ref m1, V.ref m2, V.ref m3, V.ref m4, V.ref m5, V.ref m6])
        have uu := (((((u1.trans u2).trans u3).trans u4).trans u5).trans u6).trans u7
        have g1 : LsAt _ m1 [] := LsAt.same ((((((u2.trans u3).trans u4).trans u5).trans u6).trans u7)) (show LsAt _ m1 [] from upd_same)
        have g2 : LsAt _ m2 [2] := LsAt.same (((((u3.trans u4).trans u5).trans u6).trans u7)) (show LsAt _ m2 [2] from upd_same)
        have g3 : LsAt _ m3 [] := LsAt.same ((((u4.trans u5).trans u6).trans u7)) (show LsAt _ m3 [] from upd_same)
        have g4 : LsAt _ m4 [2, 1] := LsAt.same (((u5.trans u6).trans u7)) (show LsAt _ m4 [2, 1] from upd_same)
        have g5 : LsAt _ m5 [1] := LsAt.same ((u6.trans u7)) (show LsAt _ m5 [1] from upd_same)
        have g6 : LsAt _ m6 [] := LsAt.same u7 (show LsAt _ m6 [] from upd_same)
        have rr : Refs _ [V.ref m1, V.ref m2, V.ref m3, V.ref m4, V.ref m5, V.ref m6] csA := .cons g1 (.cons g2 (.cons g3 (.cons g4 (.cons g5 (.cons g6 .nil)))))
        refine ⟨dLL csA, dLL csA, .lst (SqL.of (uu _ _ hcl17)) (dpa_refs (r17.same uu)), .lst (SqL.of upd_same) (dpa_refs rr), by decide, by decide, false, by decide, iteF ?_⟩
        have k18 := k17.same uu
        have s018 := s017.trans uu
        generalize (upd (upd (upd (upd (upd (upd (upd H17 m1 (.lst [])) m2 (.lst [V.int 2])) m3 (.lst [])) m4 (.lst [V.int 2, V.int 1])) m5 (.lst [V.int 1])) m6 (.lst [])) m7 (.lst [V.ref m1, V.ref m2, V.ref m3, V.ref m4, V.ref m5, V.ref m6])) = H18 at k18 s018 ⊢
        -- row[0] = (0, None)
        refine ⟨(by show 2 ≤ sizeLine; decide), fun p5 np5 => ?_⟩
        have c5 : CellV (upd H18 p5 (.tup [V.int 0, V.non])) (.ref p5) (some (0, none)) := ⟨p5, rfl, upd_same⟩
        have t19 : Same H18 (upd H18 p5 (.tup [V.int 0, V.non])) := same_upd np5
        have k19 := k18.same t19
        have s019 := s018.trans t19
        generalize upd H18 p5 (.tup [V.int 0, V.non]) = H19 at c5 k19 s019 ⊢
        obtain ⟨rv2, rvs2, hrv2, _⟩ := k19.hr
        refine ⟨_, rfl, r, _, _, 0, rfl, rfl, hrv2, ix0, ?_⟩
        have k20 : Kept (He.ga K "Old") (upd H19 r (.lst (V.ref p5 :: rvs2))) f r ch y lo [0, 1] row0 [[], [2], []] := k19.setR hrv2 c5
        have s020 : Same H (upd H19 r (.lst (V.ref p5 :: rvs2))) := Same.chg s019 nr0
        have e20 : upd H19 r (.lst ((rv2 :: rvs2).set 0 (V.ref p5))) = upd H19 r (.lst (V.ref p5 :: rvs2)) := rfl
        rw [e20]
        generalize upd H19 r (.lst (V.ref p5 :: rvs2)) = H20 at k20 s020 ⊢
        obtain ⟨d20, h20⟩ := k20.hy.ob
        refine ⟨_, rfl, y, d20, _, rfl, h20, cfs_no lo, _, rfl, _, rfl, y, f, [0, 1], r, row0, 2, lo, [2, 1], rfl, k20.asked (by decide) (by decide) (by decide), k20.hy, by decide, fun H21 s21 => ?_⟩
        refine ⟨_, _, rfl, rfl, true, by decide, iteT ?_⟩
        have s021 := s020.trans s21
        refine ⟨(by show 1 ≤ sizeLine; decide), fun w1 nw1 => ⟨w1, _, _, rfl, rfl, upd_same, by decide, by decide, by decide, fun w2 nw2 => ?_⟩⟩
        have t22 := (same_upd nw1 (o := .lst [V.int 1])).trans (same_upd nw2 (o := .lst (List.replicate ((3000 : Int).toNat) [V.int 1]).flatten))
        have hw2 : LsAt (upd (upd H21 w1 (.lst [V.int 1])) w2 (.lst (List.replicate ((3000 : Int).toNat) [V.int 1]).flatten)) w2 (List.replicate 3000 1) := by
          unfold LsAt
          rw [upd_same, one3000]
        have s022 := s021.trans t22
        generalize (upd (upd H21 w1 (.lst [V.int 1])) w2 (.lst (List.replicate ((3000 : Int).toNat) [V.int 1]).flatten)) = H22 at hw2 s022 ⊢
        intro y2 dy2 ny2 ndy2 hne2
        have tN2 : Same H22 (upd (upd H22 dy2 (.own y2)) y2 (.ins (He.ga K "Old") dy2 [])) := fun b o z => by
          rw [upd_ne (ne_of_none z ny2), upd_ne (ne_of_none z ndy2)]
          exact z
        refine ⟨y2, dy2, w2, List.replicate 3000 1, rfl, upd_same, hw2.same tN2, by rw [List.length_replicate]; decide, fun H23 lo2 nlo2 hlo2 hy2 kp2 => ⟨rfl, y2, dy2, _, rfl, hy2, cfs_no lo2, ?_⟩⟩
        have s23 : Same H22 H23 := fun b o z => kp2 b o (tN2 _ _ z) (ne_of_none z ny2)
        have s023 := s022.trans s23
        refine ⟨(by show 1 ≤ sizeLine; decide), fun g ng => ⟨(by show 2 ≤ sizeLine; decide), fun q0 nq0 => ⟨(by show 2 ≤ sizeLine; decide), fun q1 nq1 => ?_⟩⟩⟩
        have v1 := same_upd ng (o := .lst [V.int 0])
        have v2 := same_upd nq0 (o := .tup [V.int 0, V.non])
        have v3 := same_upd nq1 (o := .lst [V.ref q0, V.non])
        have hg : LsAt _ g [0] := LsAt.same (v2.trans v3) (show LsAt _ g [0] from upd_same)
        have hq0 : CellV _ (.ref q0) (some (0, none)) := CellV.same v3 (show CellV _ (.ref q0) (some (0, none)) from ⟨q0, rfl, upd_same⟩)
        have AA : Asked _ g [0] q1 [some (0, none), none] 1 := ⟨hg, frB_ok (by decide), ⟨_, upd_same, .cons hq0 (.cons (show CellV _ .non none from rfl) .nil)⟩, rowB_ok (by decide), by decide⟩
        refine ⟨y2, g, [0], q1, [some (0, none), none], 1, lo2, List.replicate 3000 1, rfl, AA, ?_, by rw [List.length_replicate]; decide, fun H24 s24 => ?_⟩
        · exact OldAt.same ((v1.trans v2).trans v3) ⟨⟨dy2, hy2⟩, hlo2⟩
        · refine ⟨_, rfl, ?_⟩
          have ne : ¬ chain [0] [some (0, none), none] 1 = some (List.replicate 3000 1) := by
            intro z
            have h1 : chain [0] [some (0, none), none] 1 = some [1] := by decide
            rw [h1] at z
            have := congrArg List.length (Option.some.inj z)
            rw [List.length_replicate] at this
            simp at this
          rw [decide_eq_false ne]
          exact q _ (s023.trans (((v1.trans v2).trans v3).trans s24))

end PD

namespace PD
open PySem PySem.Spec PyProof.Rows L2

/-! Phrasedesk, part 8: the law -/
--# law
def spLaw (K : PySem.W.Frag) : Sp := fun vs H Q _ => ∃ (a : Addr) (ns : List Int), vs = [.ref a] ∧ SqL K H a (ns.map V.int) ∧ ∀ H' : Hp, Q (.bl true) H'
abbrev fr7 : List Int := [0, 1, 2, 3, 4, 5, 6]
def cell7 (i : Nat) : Cell := some ((i : Int), some (if i = 0 then 5 else (i : Int) - 1))
def cells7 : List Cell := (List.range 7).map cell7
abbrev row8 : List Cell := some (5, none) :: cells7
abbrev row9 : List Cell := some (4, none) :: cells7
abbrev c7 : List Int := [7, 6, 5, 4, 3, 2, 1]
theorem cells7_at {i : Nat} (h : i < 7) : cells7.take (i + 1) = cells7.take i ++ [cell7 i] := by
  have e : cells7[i]? = some (cell7 i) := by
    unfold cells7
    rw [List.getElem?_map, List.getElem?_range h]
    rfl
  rw [List.take_add_one, e]
  rfl
theorem rg7 : rgV 0 7 = fr7.map V.int := by decide
def nsI : Nat → List Int
  | 1 => [7, 6, 5, 9, 3, 2, 1]
  | _ => c7
def tsI : Nat → List Bool
  | 0 => []
  | 1 => [false]
  | _ => [false, true]
theorem shaped_bools3 (b1 b2 b3 : Bool) : SeqAt.shaped (dB [b1, b2, b3]) = true := by
  unfold SeqAt.shaped dB
  simp only [List.map_cons, List.map_nil, PyData.canLay0, PyData.canLayAll0, PyData.depth, PyData.depthAll]
  decide
/-- a row with another head -/
theorem row_tail {H : Hp} {R r S L : Addr} {v w : V} {vs : List V} {c d : Cell} {row : List Cell} (hc : Cells H (v :: vs) (c :: row)) (hw : CellV H w d) (hr : H r = some (.lst ([w] ++ vs))) : RowAt H r (d :: row) := ⟨w :: vs, hr, hc.set0 hw⟩
/-- [(4, None)] + row[1:], read -/
theorem rd9 {K : PySem.W.Frag} {H : Hp} {R : Addr} {v : V} {vs : List V} {σ : L2.St} {Q : VK} (hσ : σ[3]? = some (some (.ref R))) (hR : H R = some (.lst (v :: vs))) (hc : Cells H (v :: vs) row8) (q : ∀ (H' : Hp) (r : Addr), Same H H' → H r = none → RowAt H' r row9 → Q (.ref r) H') :
    tOp rCat (tLst (tCons (tTup (tCons (tC (.int 4)) (tCons (tC .non) tNil))) tNil)) (tSl (rSlL K) (tVar 3) (tPart (tC (.int 1))) tNoPart) σ H Q := by
  have hln : vs.length = 7 := by
    have := hc.len
    have e : row8.length = 8 := by decide
    rw [e, List.length_cons] at this
    omega
  have cut : cutV (v :: vs) (some 1) none = vs := cut1 _
  refine ⟨(by show 2 ≤ sizeLine; decide), fun p4 np4 => ⟨(by show 1 ≤ sizeLine; decide), fun L4 nL4 => ⟨_, hσ, 1, rfl, R, _, rfl, SqL.of (same_upd nL4 _ _ (same_upd np4 _ _ hR)), fun S nS => ?_⟩⟩⟩
  have a1 := same_upd np4 (o := .tup [V.int 4, V.non])
  have a2 := same_upd nL4 (o := .lst [V.ref p4])
  have a3 := same_upd nS (o := .lst (cutV (v :: vs) (some 1) none))
  have hL4 := a3 _ _ (show (upd (upd H p4 (.tup [V.int 4, V.non])) L4 (.lst [V.ref p4])) L4 = some (.lst [V.ref p4]) from upd_same)
  have hk4 : CellV _ (.ref p4) (some (4, none)) := CellV.same (a2.trans a3) (show CellV (upd H p4 (.tup [V.int 4, V.non])) (.ref p4) (some (4, none)) from ⟨p4, rfl, upd_same⟩)
  refine ⟨L4, S, _, _, rfl, rfl, hL4, upd_same, (by rw [cut, hln]; show 1 + 7 ≤ sizeLine; decide), fun R4 nR4 => ?_⟩
  have a4 := same_upd nR4 (o := .lst ([V.ref p4] ++ cutV (v :: vs) (some 1) none))
  have s := ((a1.trans a2).trans a3).trans a4
  exact q _ R4 s (((a1.trans a2).trans a3).free nR4) ⟨V.ref p4 :: vs, by rw [upd_same, cut]; rfl, (hc.same s).set0 (hk4.same a4)⟩
theorem sc_law : FnScope ["_law_script", "_law_by", "_law_chain_here", "_law_row", "_law_found", "_law_tells", "_law_tongue", "_law_great", "_law_froms_here", "_law_other", "_law_more", "_law_others", "_law_at"] ["_law_script"] (defScope s_law) := ⟨rfl, rfl, rfl, by decide +kernel, rfl, by decide +kernel, by decide +kernel⟩
theorem lawG {P : Program} {w : World} {K : PySem.W.Frag} {mg : Str → Option Value} {base : Heap} {fd : FuncData} (T : Tx K mg) (F : FunD K "law" "law" (defArgs s_law) (defBody s_law) (defScope s_law) [] [] (He.ga K "law") fd) : FnG P w K mg base 8 (He.ga K "law") fd ["_law_script"] (spLaw K) := by
  refine okG F sc_law (fun vs H Q E h => ?_) (fun cdv A outer s H vs Q E hgd hr h => ?_)
  · obtain ⟨a, ns, rfl, _⟩ := h
    rfl
  · obtain ⟨a, ns, rfl, hS, q⟩ := h
    refine ⟨_, (pss_cons (ps_for PassesOwn.never rfl (pi_range1 (by rfl) T.f_range (pa_cons pe_int pa_nil)) (pg_name (i := 1) sc_law.nd rfl (Or.inl rfl))
      (pss_cons (ps_par (i := 8) (j := 9) (by rfl) sc_law.nd rfl rfl (by decide) rfl rfl (pa_cons (C8.pe_c (c_law_froms T) hr (by decide) rfl (pa_cons (pv 0) (pa_cons (pv 1) pa_nil))) (pa_cons (C8.pe_c (c_law_froms T) hr (by decide) rfl (pa_cons (pv 0) (pa_cons (pe_op op_add (pv 1) pe_int) pa_nil))) pa_nil)) (by rfl))
      (pss_cons (ps_par (i := 3) (j := 10) (by rfl) sc_law.nd rfl rfl (by decide) rfl rfl (pa_cons (C8.pe_c (c_law_drawn T) hr (by decide) rfl (pa_cons (pv 0) (pa_cons (pv 1) (pa_cons (pv 8) pa_nil)))) (pa_cons (C8.pe_c (c_law_drawn T) hr (by decide) rfl (pa_cons (pv 0) (pa_cons (pe_op op_add (pv 1) pe_int) (pa_cons (pv 9) pa_nil)))) pa_nil)) (by rfl))
      (pss_one (ps_for PassesOwn.never rfl (pi_range1 (by rfl) T.f_range (pa_cons (pe_op op_add (pe_callB call_len_seq (by rfl) T.f_len (by decide +kernel) (pa_cons (pv 8) pa_nil)) pe_int) pa_nil)) (pg_name (i := 6) sc_law.nd rfl (Or.inl rfl))
        (pss_cons (ps_set (i := 11) sc_law.nd rfl (Or.inl rfl) (pe_lst (pa_cons (pe_tup (pa_cons (pv 9) (pa_cons (pv 10) (pa_cons (pe_callB call_len_seq (by rfl) T.f_len (by decide +kernel) (pa_cons (pv 9) pa_nil)) pa_nil)))) (pa_cons (pe_tup (pa_cons (pv 8) (pa_cons (C8.pe_c (c_law_drawn T) hr (by decide) rfl (pa_cons (pv 0) (pa_cons (pe_op op_add (pv 1) pe_int) (pa_cons (pv 8) pa_nil)))) (pa_cons (pv 6) pa_nil)))) (pa_cons (pe_tup (pa_cons (pv 8) (pa_cons (pv 3) (pa_cons pe_int pa_nil)))) pa_nil)))))
        (pss_one (ps_if (pt_not (pt_val (pe_cG (c_law_right T) hgd hr (by decide) rfl (pa_cons (pv 8) (pa_cons (pv 3) (pa_cons (pv 6) (pa_cons (pv 11) pa_nil)))))))
          (pss_one (ps_ret pe_bl))
          pss_nil))))))))
    (pss_cons (ps_set (i := 2) sc_law.nd rfl (Or.inl rfl) (pe_listRg rfl (by rfl) T.f_list (prg_1 (by rfl) T.f_range pe_int)))
    (pss_cons (ps_set (i := 3) sc_law.nd rfl (Or.inl rfl) (pe_op op_cat (pe_lst (pa_cons (pe_tup (pa_cons pe_int (pa_cons pe_non pa_nil))) pa_nil)) (pe_lc (own := [("_law_at", 12)]) (g := gName 12) (tt := tYes) (by rfl) sc_law.nd (pi_range1 (by rfl) T.f_range (pa_cons pe_int pa_nil)) (blkOk_by (own := [("_law_at", 12)]) (N := ["_law_script", "_law_by", "_law_chain_here", "_law_row", "_law_found", "_law_tells", "_law_tongue", "_law_great", "_law_froms_here", "_law_other", "_law_more", "_law_others", "_law_at"]) (sc := defScope s_law) (by decide +kernel)) (fun _ _ _ _ _ => (pg_name (i := 12) sc_law.nd rfl (Or.inl rfl))) (fun _ _ _ _ _ => pts_nil) (fun _ _ _ _ _ => (pe_tup (pa_cons (pv 12) (pa_cons (pe_ifExp (pt_cmpR op_eq (pv 12) pe_int (nomark _)) pe_int (pe_op op_sub (pv 12) pe_int)) pa_nil)))))))
    (pss_cons (ps_if (pt_not (pt_val (pe_callB call_isi (by rfl) T.f_isinstance (by decide +kernel) (pa_cons (C8.pe_c (c_told T) hr (by decide) rfl (pa_cons (pv 2) (pa_cons (pv 3) (pa_cons pe_int pa_nil)))) (pa_cons (pe_glob (v := .ref (He.ga K "Fresh")) rfl T.g_Fresh rfl) pa_nil)))))
      (pss_one (ps_ret pe_bl))
      pss_nil)
    (pss_cons (ps_par (i := 4) (j := 5) (by rfl) sc_law.nd rfl rfl (by decide) rfl rfl (pa_cons (C8.pe_c (c_told T) hr (by decide) rfl (pa_cons (pv 2) (pa_cons (pe_op op_cat (pe_lst (pa_cons (pe_tup (pa_cons pe_int (pa_cons pe_non pa_nil))) pa_nil)) (pe_slice sl_list (pv 3) (po_some pe_int) po_none)) (pa_cons pe_int pa_nil)))) (pa_cons (pe_lst pa_nil) pa_nil)) (by rfl))
    (pss_cons (ps_if (PW.pt (pw_or (pt_cmpR (op_neD hr.units) (pe_fld (pv 4) (by rfl)) (pe_lst (pa_cons pe_int (pa_cons pe_int (pa_cons pe_int (pa_cons pe_int (pa_cons pe_int (pa_cons pe_int (pa_cons pe_int pa_nil)))))))) (nomark _)) (pw_or1 (pt_not (pt_val (pe_c0 (c_law_changed_right T) hr (by decide) rfl))))))
      (pss_one (ps_ret pe_bl))
      pss_nil)
    (pss_cons (ps_for PassesOwn.never rfl (pi_tup (pe_tup (pa_cons pe_int (pa_cons pe_int pa_nil)))) (pg_name (i := 6) sc_law.nd rfl (Or.inl rfl))
      (pss_cons (ps_asg (pv 6) (pg_sub (pe_fld (pv 4) (by rfl)) pe_int set_list))
      (pss_one (ps_expr (pe_bm PySem.F.plainAttrs_list PySem.F.slot_list_append PySem.F.type_list_append mt_append (pv 5) (pa_cons (C8.pe_mt (c_Old_shows T) hr (by decide) (pv 4) (pa_cons (pv 2) (pa_cons (pe_op op_cat (pe_lst (pa_cons (pe_tup (pa_cons pe_int (pa_cons pe_non pa_nil))) pa_nil)) (pe_slice sl_list (pv 3) (po_some pe_int) po_none)) (pa_cons pe_int pa_nil)))) pa_nil))))))
    (pss_cons (ps_expr (pe_bm0 PySem.F.plainAttrs_list PySem.F.slot_list_pop PySem.F.type_list_pop mt_pop (pe_fld (pv 4) (by rfl))))
    (pss_cons (ps_expr (pe_bm PySem.F.plainAttrs_list PySem.F.slot_list_append PySem.F.type_list_append mt_append (pv 5) (pa_cons (C8.pe_mt (c_Old_shows T) hr (by decide) (pv 4) (pa_cons (pv 2) (pa_cons (pe_op op_cat (pe_lst (pa_cons (pe_tup (pa_cons pe_int (pa_cons pe_non pa_nil))) pa_nil)) (pe_slice sl_list (pv 3) (po_some pe_int) po_none)) (pa_cons pe_int pa_nil)))) pa_nil)))
    (pss_cons (ps_expr (pe_bm PySem.F.plainAttrs_list PySem.F.slot_list_append PySem.F.type_list_append mt_append (pe_fld (pv 4) (by rfl)) (pa_cons pe_int pa_nil)))
    (pss_cons (ps_if (PW.pt (pw_or (pt_cmpR (op_neD hr.units) (pv 5) (pe_lst (pa_cons pe_bl (pa_cons pe_bl (pa_cons pe_bl pa_nil)))) (nomark _)) (pw_or1 (pt_cmpR op_notBl (C8.pe_mt (c_Old_shows T) hr (by decide) (pv 4) (pa_cons (pv 2) (pa_cons (pe_op op_cat (pe_lst (pa_cons (pe_tup (pa_cons pe_int (pa_cons pe_non pa_nil))) pa_nil)) (pe_slice sl_list (pv 3) (po_some pe_int) po_none)) (pa_cons pe_int pa_nil)))) pe_bl (nomark _)))))
      (pss_one (ps_ret pe_bl))
      pss_nil)
    (pss_cons (ps_set (i := 7) sc_law.nd rfl (Or.inl rfl) (pe_lst (pa_cons (pe_tup (pa_cons (pe_op op_pow pe_int pe_int) (pa_cons pe_non pa_nil))) (pa_cons (pe_tup (pa_cons pe_int (pa_cons (pe_op op_mul (pe_op op_pow pe_int pe_int) (pe_op op_add (pe_op op_add pe_int (pe_callB call_len_seq (by rfl) T.f_len (by decide +kernel) (pa_cons (pv 2) pa_nil))) pe_int)) pa_nil))) pa_nil))))
    (pss_cons (ps_if (pt_not (pt_val (pe_callB call_isi (by rfl) T.f_isinstance (by decide +kernel) (pa_cons (C8.pe_c (c_told T) hr (by decide) rfl (pa_cons (pe_lst (pa_cons pe_int pa_nil)) (pa_cons (pv 7) (pa_cons pe_int pa_nil)))) (pa_cons (pe_glob (v := .ref (He.ga K "Fresh")) rfl T.g_Fresh rfl) pa_nil)))))
      (pss_one (ps_ret pe_bl))
      pss_nil)
    (pss_cons (ps_asg (pe_tup (pa_cons pe_int (pa_cons pe_int pa_nil))) (pg_sub (pv 7) pe_int set_list))
    (pss_cons (ps_if (pt_not (pt_val (pe_callB call_isi (by rfl) T.f_isinstance (by decide +kernel) (pa_cons (C8.pe_c (c_told T) hr (by decide) rfl (pa_cons (pe_lst (pa_cons pe_int pa_nil)) (pa_cons (pv 7) (pa_cons pe_int pa_nil)))) (pa_cons (pe_glob (v := .ref (He.ga K "Old")) rfl T.g_Old rfl) pa_nil)))))
      (pss_one (ps_ret pe_bl))
      pss_nil)
    (pss_one (ps_ret (pe_and (pe_cmpR (op_eqD hr.units) (pe_fld (C8.pe_c (c_told T) hr (by decide) rfl (pa_cons (pe_lst (pa_cons pe_int (pa_cons pe_int pa_nil))) (pa_cons (pe_lst (pa_cons (pe_tup (pa_cons pe_int (pa_cons pe_non pa_nil))) (pa_cons pe_non (pa_cons (pe_tup (pa_cons pe_int (pa_cons pe_int pa_nil))) pa_nil)))) (pa_cons pe_int pa_nil)))) (by rfl)) (pe_lst (pa_cons pe_int pa_nil)) (nomark _)) (pe_one (pe_cmpR (op_eqD hr.units) (pe_fld (C8.pe_c (c_told T) hr (by decide) rfl (pa_cons (pe_lst (pa_cons pe_int pa_nil)) (pa_cons (pe_lst (pa_cons (pe_tup (pa_cons pe_int (pa_cons pe_non pa_nil))) (pa_cons pe_non pa_nil))) (pa_cons pe_int pa_nil)))) (by rfl)) (pe_lst (pa_cons pe_int pa_nil)) (nomark _))))))))))))))))))))), ?_⟩
    refine ⟨3, rfl, by decide, by decide, ?_⟩
    refine for_range (lo := 0) (n := 3) (fun i σ H1 => ∃ v1 v3 v6 v8 v9 v10 v11 : Option V, σ = [some (.ref a), v1, none, v3, none, none, v6, none, v8, v9, v10, v11, none] ∧ Same H H1) ⟨none, none, none, none, none, none, none, rfl, Same.refl _⟩ ?_ ?_
    · rintro i σ H1 hi ⟨v1, v3, v6, v8, v9, v10, v11, rfl, s1⟩
      rw [Int.zero_add]
      refine ⟨_, rfl, _, rfl, a, ns, _, rfl, s1.seq hS, by omega, by omega, fun H2 f1 fr1 s2 n1 l1 o1 => ⟨_, rfl, _, rfl, _, _, rfl, rfl, a, ns, _, rfl, (s1.trans s2).seq hS, by omega, by omega, fun H3 f2 fr2 s3 n2 l2 o2 => ⟨_, _, rfl, ?_⟩⟩⟩
      have s03 := (s1.trans s2).trans s3
      refine ⟨_, rfl, _, rfl, _, rfl, a, ns, _, f1, fr1, rfl, s03.seq hS, by omega, by omega, l1.same s3, o1, fun H4 r1 row1 s4 nr1 hr1 ok1 => ⟨_, rfl, _, rfl, _, _, rfl, rfl, _, rfl, a, ns, _, f2, fr2, rfl, (s03.trans s4).seq hS, by omega, by omega, l2.same s4, o2, fun H5 r2 row2 s5 nr2 hr2 ok2 => ⟨_, _, rfl, ?_⟩⟩⟩
      have s05 := (s03.trans s4).trans s5
      have f15 : LsAt H5 f1 fr1 := (l1.same s3).same (s4.trans s5)
      have f25 : LsAt H5 f2 fr2 := l2.same (s4.trans s5)
      have r15 := hr1.same s5
      have h17 := o1.hi
      have h27 := o2.hi
      refine ⟨_, rfl, f1, _, rfl, .inl (SqL.of f15), _, _, rfl, rfl, _, rfl, by rw [List.length_map]; omega, by rw [List.length_map]; omega, ?_⟩
      refine for_range (lo := 0) (n := (((fr1.map V.int).length : Int) + 1).toNat) (fun j σ H6 => ∃ v6 v11 : Option V, σ = [some (.ref a), some (.int (i : Int)), none, some (.ref r1), none, none, v6, none, some (.ref f1), some (.ref f2), some (.ref r2), v11, none] ∧ Same H5 H6) ⟨_, _, rfl, Same.refl _⟩ ?_ ?_
      · rintro j σ H6 hj ⟨w6, w11, rfl, s6⟩
        rw [List.length_map] at hj
        rw [Int.zero_add]
        have s06 := s05.trans s6
        refine ⟨_, rfl, _, rfl, _, rfl, f2, _, rfl, .inl (SqL.of (f25.same s6)), (by show 3 ≤ sizeLine; decide), fun t1 nt1 => ?_⟩
        have u1 := same_upd nt1 (o := .tup [V.ref f2, V.ref r2, V.int ((fr2.map V.int).length : Int)])
        have g1 : (upd H6 t1 (.tup [V.ref f2, V.ref r2, V.int ((fr2.map V.int).length : Int)])) t1 = some (.tup [V.ref f2, V.ref r2, V.int (fr2.length : Int)]) := by
          rw [upd_same, List.length_map]
        have s07 := s06.trans u1
        have s57 := s6.trans u1
        generalize upd H6 t1 (.tup [V.ref f2, V.ref r2, V.int ((fr2.map V.int).length : Int)]) = H7 at g1 s07 s57 ⊢
        refine ⟨_, rfl, _, rfl, _, rfl, _, _, rfl, rfl, _, rfl, a, ns, _, f1, fr1, rfl, s07.seq hS, by omega, by omega, f15.same s57, o1, fun H8 r3 row3 s8 nr3 hr3 ok3 => ⟨_, rfl, (by show 3 ≤ sizeLine; decide), fun t2 nt2 => ?_⟩⟩
        have u2 := same_upd nt2 (o := .tup [V.ref f1, V.ref r3, V.int (j : Int)])
        have g2 : (upd H8 t2 (.tup [V.ref f1, V.ref r3, V.int (j : Int)])) t2 = some (.tup [V.ref f1, V.ref r3, V.int (j : Int)]) := upd_same
        have s59 := (s57.trans s8).trans u2
        have s79 := s8.trans u2
        have r39 := hr3.same u2
        generalize upd H8 t2 (.tup [V.ref f1, V.ref r3, V.int (j : Int)]) = H9 at g2 s59 s79 r39 ⊢
        refine ⟨_, rfl, _, rfl, (by show 3 ≤ sizeLine; decide), fun t3 nt3 => ?_⟩
        have u3 := same_upd nt3 (o := .tup [V.ref f1, V.ref r1, V.int 0])
        have g3 : (upd H9 t3 (.tup [V.ref f1, V.ref r1, V.int 0])) t3 = some (.tup [V.ref f1, V.ref r1, V.int 0]) := upd_same
        have s510 := s59.trans u3
        have s710 := s79.trans u3
        have g2' := u3 _ _ g2
        have r310 := r39.same u3
        generalize upd H9 t3 (.tup [V.ref f1, V.ref r1, V.int 0]) = H10 at g2' g3 s510 s710 r310 ⊢
        refine ⟨(by show 3 ≤ sizeLine; decide), fun o no => ?_⟩
        have u4 := same_upd no (o := .lst [V.ref t1, V.ref t2, V.ref t3])
        have s511 := s510.trans u4
        have s711 := s710.trans u4
        have A1 : Asked (upd H10 o (.lst [V.ref t1, V.ref t2, V.ref t3])) f1 fr1 r1 row1 j := ⟨f15.same s511, o1, r15.same s511, ok1, by omega⟩
        have OO : Oth (upd H10 o (.lst [V.ref t1, V.ref t2, V.ref t3])) o [t1, t2, t3] := by
          refine ⟨upd_same, (by show 3 ≤ 100; decide), fun u hu => ?_⟩
          simp only [List.mem_cons, List.not_mem_nil, or_false] at hu
          rcases hu with rfl | rfl | rfl
          · exact ⟨f2, r2, fr2, row2, fr2.length, s711 _ _ g1, f25.same s511, o2, hr2.same s511, ok2, Nat.le_refl _⟩
          · exact ⟨f1, r3, fr1, row3, j, u4 _ _ g2', f15.same s511, o1, r310.same u4, ok3, by omega⟩
          · exact ⟨f1, r1, fr1, row1, 0, u4 _ _ g3, f15.same s511, o1, r15.same s511, ok1, Nat.zero_le _⟩
        have em : chain fr1 row1 j = none ∨ ∃ c, chain fr1 row1 j = some c := by
          cases chain fr1 row1 j with
          | none => exact .inl rfl
          | some c => exact .inr ⟨c, rfl⟩
        refine ⟨_, rfl, _, rfl, _, rfl, _, rfl, f1, fr1, r1, row1, j, o, [t1, t2, t3], rfl, A1, OO, em, fun H12 s12 => ⟨true, rfl, iteF ⟨_, _, rfl, s511.trans s12⟩⟩⟩
      · rintro σ H6 ⟨w6, w11, rfl, s6⟩
        exact ⟨_, _, _, _, _, _, _, rfl, s05.trans s6⟩
    · rintro σ H1 ⟨v1, v3, v6, v8, v9, v10, v11, rfl, s1⟩
      refine ⟨7, rfl, RgOk.of_le (by decide) (by decide) (by decide) (by decide), fun g ng => ?_⟩
      have lg : LsAt (upd H1 g (.lst (rgV 0 7))) g fr7 := by
        unfold LsAt
        rw [upd_same, rg7]
      generalize upd H1 g (.lst (rgV 0 7)) = H2 at lg ⊢
      refine ⟨(by show 2 ≤ sizeLine; decide), fun p5 np5 => ?_⟩
      have k5 : CellV (upd H2 p5 (.tup [V.int 5, V.non])) (.ref p5) (some (5, none)) := ⟨p5, rfl, upd_same⟩
      have t3 : Same H2 (upd H2 p5 (.tup [V.int 5, V.non])) := same_upd np5
      have lg3 := lg.same t3
      generalize upd H2 p5 (.tup [V.int 5, V.non]) = H3 at k5 lg3 ⊢
      refine ⟨(by show 1 ≤ sizeLine; decide), fun L5 nL5 => ?_⟩
      have t4 : Same H3 (upd H3 L5 (.lst [V.ref p5])) := same_upd nL5
      have h5 : (upd H3 L5 (.lst [V.ref p5])) L5 = some (.lst [V.ref p5]) := upd_same
      have lg4 := lg3.same t4
      have k54 := k5.same t4
      generalize upd H3 L5 (.lst [V.ref p5]) = H4 at h5 lg4 k54 ⊢
      refine ⟨7, rfl, by decide, by decide, fun D nD => ?_⟩
      refine lc_range (lo := 0) (n := 7) (fun i H5 => Same H4 H5 ∧ ∃ vs, H5 D = some (.lst vs) ∧ Cells H5 vs (cells7.take i)) ⟨same_upd nD, [], upd_same, Cells.nil⟩ ?_ ?_
      · rintro i H5 hi ⟨s5, vs, hD, hc⟩
        rw [Int.zero_add]
        have hz : vs.length < sizeLine := by
          rw [hc.len, List.length_take]
          exact Nat.lt_of_le_of_lt (Nat.min_le_left _ _) (small1000 (by omega))
        have fin : ∀ (x : Int), x = (if i = 0 then 5 else (i : Int) - 1) → ∀ p, H5 p = none → ∃ acc, (upd H5 p (.tup [V.int (i : Int), V.int x])) D = some (.lst acc) ∧ acc.length < sizeLine ∧ Same H4 (upd (upd H5 p (.tup [V.int (i : Int), V.int x])) D (.lst (acc ++ [V.ref p]))) ∧ ∃ vs, (upd (upd H5 p (.tup [V.int (i : Int), V.int x])) D (.lst (acc ++ [V.ref p]))) D = some (.lst vs) ∧ Cells (upd (upd H5 p (.tup [V.int (i : Int), V.int x])) D (.lst (acc ++ [V.ref p]))) vs (cells7.take (i + 1)) := by
          intro x ex p np
          have u := same_upd np (o := .tup [V.int (i : Int), V.int x])
          have hD' := u _ _ hD
          refine ⟨vs, hD', hz, Same.chg (s5.trans u) nD, _, upd_same, ?_⟩
          rw [cells7_at hi]
          refine Cells.upd hD' ((hc.same u).snoc ?_)
          unfold cell7
          rw [← ex]
          exact ⟨p, rfl, upd_same⟩
        by_cases h0 : i = 0
        · subst h0
          refine ⟨rfl, _, rfl, _, rfl, rfl, true, bl_of (decide_eq_true rfl), iteT ⟨(by show 2 ≤ sizeLine; decide), fun p np => fin 5 rfl p np⟩⟩
        · refine ⟨rfl, _, rfl, _, rfl, rfl, false, congrArg V.bl (decide_eq_false fun z => h0 (by have := V.int.inj z; omega)), iteF ⟨_, rfl, _, _, rfl, rfl, (by show 2 ≤ sizeLine; decide), fun p np => fin _ (by rw [if_neg h0]) p np⟩⟩
      · rintro H5 ⟨s5, vs, hD, hc⟩
        have hc7 : Cells H5 vs cells7 := hc
        have hln : vs.length = 7 := by
          rw [hc7.len]
          rfl
        refine ⟨L5, D, _, _, rfl, rfl, s5 _ _ h5, hD, (by rw [hln]; show 1 + 7 ≤ sizeLine; decide), fun R nR => ?_⟩
        have u6 := same_upd nR (o := .lst ([V.ref p5] ++ vs))
        have hR : (upd H5 R (.lst ([V.ref p5] ++ vs))) R = some (.lst (V.ref p5 :: vs)) := upd_same
        have lg6 := (lg4.same s5).same u6
        have cR : Cells (upd H5 R (.lst ([V.ref p5] ++ vs))) (V.ref p5 :: vs) row8 := .cons ((k54.same s5).same u6) (hc7.same u6)
        generalize upd H5 R (.lst ([V.ref p5] ++ vs)) = H6 at hR lg6 cR ⊢
        have fo7 : FrOk fr7 := frB_ok (by decide)
        have ro8 : RowOk fr7 row8 := rowB_ok (by decide)
        have ro9 : RowOk fr7 row9 := rowB_ok (by decide)
        have ch8 : chain fr7 row8 7 = none := by decide
        have ch9 : chain fr7 row9 7 = some c7 := by decide
        have A8 : Asked H6 g fr7 R row8 7 := ⟨lg6, fo7, ⟨_, hR, cR⟩, ro8, by decide⟩
        refine ⟨_, rfl, _, rfl, g, fr7, R, row8, 7, rfl, A8, fun _ H7 y7 d7 s7 ny7 hy7 => ?_, fun c e => by rw [ch8] at e; cases e⟩
        refine ⟨_, _, _, _, true, rfl, .own _, T.t_Fresh.ty T.k_Fresh hy7, T.is_Fresh_Fresh, true, rfl, iteF ?_⟩
        -- what is told of a row with another head
        have lg7 := lg6.same s7
        have hR7 := s7 _ _ hR
        have cR7 := cR.same s7
        refine ⟨_, rfl, ?_⟩
        refine rd9 (R := R) rfl hR7 cR7 fun H8 R4 s78 nR4 hr4 => ?_
        have A9 : Asked H8 g fr7 R4 row9 7 := ⟨lg7.same s78, fo7, hr4, ro9, by decide⟩
        refine ⟨g, fr7, R4, row9, 7, rfl, A9, (fun e => by rw [ch9] at e; cases e), fun c ec H9 y l s9 ny nl nyl hO => ⟨Nat.zero_le _, fun tl ntl => ⟨_, _, rfl, ?_⟩⟩⟩
        rw [ch9] at ec
        cases (Option.some.inj ec)
        have s79 := s78.trans s9
        have nl7 : H7 l = none := s78.free nl
        have ntl7 : H7 tl = none := s79.free ntl
        have u10 := same_upd ntl (o := .lst [])
        have htl : (upd H9 tl (.lst [])) tl = some (.lst (([] : List Bool).map V.bl)) := upd_same
        have hO10 := hO.same u10
        have s710 := s79.trans u10
        have nltl : l ≠ tl := ne_of_none hO.ls ntl
        generalize upd H9 tl (.lst []) = H10 at htl hO10 s710 ⊢
        obtain ⟨d10, h10⟩ := hO10.ob
        refine ⟨_, rfl, y, _, d10, _, _, rfl, h10, T.k_Old, T.n_Old_chain, cfs_at l, (by show 7 ≤ sizeLine; decide), fun m nm => ?_⟩
        have u11 := same_upd nm (o := .lst [V.int 7, V.int 6, V.int 5, V.int 4, V.int 3, V.int 2, V.int 1])
        refine ⟨dI c7, dI c7, dp_ints (hO10.ls.same u11), dp_ints (ns := c7) upd_same, shaped_ints _, shaped_ints _, false, by rw [eqv_ints]; rfl, iteF ?_⟩
        refine ⟨(), rfl, fun H12 s12 => ⟨true, rfl, iteF ?_⟩⟩
        have s712 := (s710.trans u11).trans s12
        have hO12 := (hO10.same u11).same s12
        have htl12 := s12 _ _ (u11 _ _ htl)
        have ask : ∀ {H' : Hp} {r : Addr}, Same H7 H' → RowAt H' r row9 → Asked H' g fr7 r row9 7 := fun z hr => ⟨lg7.same z, fo7, hr, ro9, by decide⟩
        -- for tongue in (9, 4)
        refine ⟨(by show 2 ≤ sizeLine; decide), fun tp ntp => ⟨tp, rfl, ⟨_, SqT.of upd_same⟩, ?_⟩⟩
        have u13 := same_upd ntp (o := .tup [V.int 9, V.int 4])
        refine for_tup (K := K) (a := tp) (xs := [V.int 9, V.int 4]) (fun i σ H14 => ∃ w6 : Option V, σ = [some (.ref a), v1, some (.ref g), some (.ref R), some (.ref y), some (.ref tl), w6, none, v8, v9, v10, v11, none] ∧ Same H7 H14 ∧ H14 tp = some (.tup [V.int 9, V.int 4]) ∧ OldAt (He.ga K "Old") H14 y l (nsI i) ∧ H14 tl = some (.lst ((tsI i).map V.bl)))
          ⟨_, rfl, s712.trans u13, upd_same, hO12.same u13, u13 _ _ htl12⟩ (fun i σ H14 _ ⟨_, _, _, z, _⟩ => SqT.of z) ?_ ?_
        · rintro i x σ H14 hx ⟨w6, rfl, s14, h14, o14, e14⟩
          have go : ∀ (z : Int) (b : Bool), x = .int z → (nsI (i + 1)).map V.int = ((nsI i).map V.int).set 3 (.int z) → tsI (i + 1) = tsI i ++ [b] → (nsI i).length = 7 → (nsI (i + 1)).length ≤ 5000 → (tsI i).length ≤ 10 → decide (chain fr7 row9 7 = some (nsI (i + 1))) = b →
              ∀ Qn : L2.St → Hp → Prop, (∀ σ' H', (∃ w6 : Option V, σ' = [some (.ref a), v1, some (.ref g), some (.ref R), some (.ref y), some (.ref tl), w6, none, v8, v9, v10, v11, none] ∧ Same H7 H' ∧ H' tp = some (.tup [V.int 9, V.int 4]) ∧ OldAt (He.ga K "Old") H' y l (nsI (i + 1)) ∧ H' tl = some (.lst ((tsI (i + 1)).map V.bl))) → Qn σ' H') →
              ∃ (l' : Addr) (H15 : Hp) (dz : Addr), l' = l ∧ H14 y = some (.ins (He.ga K "Old") dz (cfs l)) ∧ H15 = upd H14 l (.lst (((nsI i).map V.int).set 3 (.int z))) ∧ Same H7 H15 ∧ H15 tp = some (.tup [V.int 9, V.int 4]) ∧ OldAt (He.ga K "Old") H15 y l (nsI (i + 1)) ∧ H15 tl = some (.lst ((tsI i).map V.bl)) := by
            intro z b ex en et hn hn2 ht hd Qn hQ
            obtain ⟨dz, hz⟩ := o14.ob
            refine ⟨l, _, dz, rfl, hz, rfl, Same.chg s14 nl7, ?_, ⟨⟨dz, ?_⟩, ?_⟩, ?_⟩
            · rw [upd_ne (ne_of h14 o14.ls (by intro z; cases z))]
              exact h14
            · rw [upd_ne (ne_of hz o14.ls (by intro z; cases z))]
              exact hz
            · unfold LsAt
              rw [upd_same, en]
            · rw [upd_ne nltl.symm]
              exact e14
          have fin : ∀ (H15 : Hp) (b : Bool) (z : V), Same H7 H15 → H15 tp = some (.tup [V.int 9, V.int 4]) → OldAt (He.ga K "Old") H15 y l (nsI (i + 1)) → H15 tl = some (.lst ((tsI i).map V.bl)) → tsI (i + 1) = tsI i ++ [b] → b = decide (chain fr7 row9 7 = some (nsI (i + 1))) → ∀ H16, Same H15 H16 →
              ∃ w6 : Option V, [some (V.ref a), v1, some (V.ref g), some (V.ref R), some (V.ref y), some (V.ref tl), some z, none, v8, v9, v10, v11, none] = [some (.ref a), v1, some (.ref g), some (.ref R), some (.ref y), some (.ref tl), w6, none, v8, v9, v10, v11, none] ∧
              Same H7 (upd H16 tl (.lst ((tsI i).map V.bl ++ [V.bl b]))) ∧ (upd H16 tl (.lst ((tsI i).map V.bl ++ [V.bl b]))) tp = some (.tup [V.int 9, V.int 4]) ∧ OldAt (He.ga K "Old") (upd H16 tl (.lst ((tsI i).map V.bl ++ [V.bl b]))) y l (nsI (i + 1)) ∧ (upd H16 tl (.lst ((tsI i).map V.bl ++ [V.bl b]))) tl = some (.lst ((tsI (i + 1)).map V.bl)) := by
            intro H15 b z s15 h15 o15 e15 et hb H16 s16
            have e16 := s16 _ _ e15
            refine ⟨_, rfl, Same.chg (s15.trans s16) ntl7, ?_, (o15.same s16).upd e16 nltl, ?_⟩
            · rw [upd_ne (ne_of (s16 _ _ h15) e16 (by intro z; cases z))]
              exact s16 _ _ h15
            · rw [upd_same, et, List.map_append]
              rfl
          match i, hx with
          | 0, hx =>
            cases (Option.some.inj hx)
            obtain ⟨l', H15, dz, rfl, hz, e15, s15, h15, o15, t15⟩ := go 9 false rfl rfl rfl rfl (by decide) (by decide) (by decide) (fun _ _ => True) (fun _ _ _ => trivial)
            refine ⟨_, rfl, _, rfl, y, _, dz, _, _, rfl, hz, T.k_Old, T.n_Old_chain, cfs_at l', l', _, _, 3, rfl, rfl, o14.ls, rfl, ?_⟩
            rw [← e15]
            obtain ⟨d15, k15⟩ := o15.ob
            refine ⟨_, rfl, .inl ⟨rfl, _, SqL.of t15⟩, _, rfl, y, d15, _, rfl, k15, cfs_no l', _, rfl, ?_⟩
            refine rd9 (R := R) rfl (s15 _ _ hR7) (cR7.same s15) fun H16 R5 s16 nR5 hr5 => ?_
            refine ⟨y, g, fr7, R5, row9, 7, l', nsI 1, rfl, ask (s15.trans s16) hr5, o15.same s16, by decide, fun H17 s17 => ?_⟩
            refine ⟨tl, _, _, rfl, rfl, (s16.trans s17) _ _ t15, by decide, ?_⟩
            exact fin H15 _ _ s15 h15 o15 t15 (by decide) rfl H17 (s16.trans s17)
          | 1, hx =>
            cases (Option.some.inj hx)
            obtain ⟨l', H15, dz, rfl, hz, e15, s15, h15, o15, t15⟩ := go 4 true rfl rfl rfl rfl (by decide) (by decide) (by decide) (fun _ _ => True) (fun _ _ _ => trivial)
            refine ⟨_, rfl, _, rfl, y, _, dz, _, _, rfl, hz, T.k_Old, T.n_Old_chain, cfs_at l', l', _, _, 3, rfl, rfl, o14.ls, rfl, ?_⟩
            rw [← e15]
            obtain ⟨d15, k15⟩ := o15.ob
            refine ⟨_, rfl, .inl ⟨rfl, _, SqL.of t15⟩, _, rfl, y, d15, _, rfl, k15, cfs_no l', _, rfl, ?_⟩
            refine rd9 (R := R) rfl (s15 _ _ hR7) (cR7.same s15) fun H16 R5 s16 nR5 hr5 => ?_
            refine ⟨y, g, fr7, R5, row9, 7, l', nsI 2, rfl, ask (s15.trans s16) hr5, o15.same s16, by decide, fun H17 s17 => ?_⟩
            refine ⟨tl, _, _, rfl, rfl, (s16.trans s17) _ _ t15, by decide, ?_⟩
            exact fin H15 _ _ s15 h15 o15 t15 (by decide) rfl H17 (s16.trans s17)
          | i + 2, hx => simp at hx
        · rintro σ H14 ⟨w6, rfl, s14, h14, o14, e14⟩
          have o14' : OldAt (He.ga K "Old") H14 y l c7 := o14
          have e14' : H14 tl = some (.lst ([false, true].map V.bl)) := e14
          obtain ⟨dz, hz⟩ := o14.ob
          -- found.chain.pop()
          refine ⟨_, rfl, y, _, dz, _, _, rfl, hz, T.k_Old, T.n_Old_chain, cfs_at l, .inl ⟨rfl, _, SqL.of o14'.ls⟩, l, _, _, rfl, rfl, o14'.ls, rfl, ?_⟩
          have o15 : OldAt (He.ga K "Old") (upd H14 l (.lst (c7.map V.int).dropLast)) y l [7, 6, 5, 4, 3, 2] := ⟨⟨dz, by rw [upd_ne nyl]; exact hz⟩, upd_same⟩
          have s15 : Same H7 (upd H14 l (.lst (c7.map V.int).dropLast)) := Same.chg s14 nl7
          have e15 : (upd H14 l (.lst (c7.map V.int).dropLast)) tl = some (.lst ([false, true].map V.bl)) := by rw [upd_ne nltl.symm]; exact e14'
          generalize upd H14 l (.lst (c7.map V.int).dropLast) = H15 at o15 s15 e15 ⊢
          -- tells.append(..)
          obtain ⟨d15, k15⟩ := o15.ob
          refine ⟨_, rfl, .inl ⟨rfl, _, SqL.of e15⟩, _, rfl, y, d15, _, rfl, k15, cfs_no l, _, rfl, ?_⟩
          refine rd9 (R := R) rfl (s15 _ _ hR7) (cR7.same s15) fun H16 R5 s16 nR5 hr5 => ?_
          refine ⟨y, g, fr7, R5, row9, 7, l, [7, 6, 5, 4, 3, 2], rfl, ask (s15.trans s16) hr5, o15.same s16, by decide, fun H17 s17 => ?_⟩
          have e17 := (s16.trans s17) _ _ e15
          refine ⟨tl, _, _, rfl, rfl, e17, by decide, ?_⟩
          have o18 := ((o15.same s16).same s17).upd e17 nltl (o := .lst ([false, true].map V.bl ++ [V.bl (decide (chain fr7 row9 7 = some [7, 6, 5, 4, 3, 2]))]))
          have s18 : Same H7 (upd H17 tl (.lst ([false, true].map V.bl ++ [V.bl (decide (chain fr7 row9 7 = some [7, 6, 5, 4, 3, 2]))]))) := Same.chg ((s15.trans s16).trans s17) ntl7
          have e18 : (upd H17 tl (.lst ([false, true].map V.bl ++ [V.bl (decide (chain fr7 row9 7 = some [7, 6, 5, 4, 3, 2]))]))) tl = some (.lst ([false, true, false].map V.bl)) := by
            rw [upd_same, decide_eq_false (by decide)]
            rfl
          generalize upd H17 tl (.lst ([false, true].map V.bl ++ [V.bl (decide (chain fr7 row9 7 = some [7, 6, 5, 4, 3, 2]))])) = H18 at o18 s18 e18 ⊢
          -- found.chain.append(1)
          obtain ⟨d18, k18⟩ := o18.ob
          refine ⟨_, rfl, y, _, d18, _, _, rfl, k18, T.k_Old, T.n_Old_chain, cfs_at l, .inl ⟨rfl, _, SqL.of o18.ls⟩, l, _, _, rfl, rfl, o18.ls, by decide, ?_⟩
          have o19 : OldAt (He.ga K "Old") (upd H18 l (.lst (([7, 6, 5, 4, 3, 2] : List Int).map V.int ++ [V.int 1]))) y l c7 := ⟨⟨d18, by rw [upd_ne nyl]; exact k18⟩, upd_same⟩
          have s19 : Same H7 (upd H18 l (.lst (([7, 6, 5, 4, 3, 2] : List Int).map V.int ++ [V.int 1]))) := Same.chg s18 nl7
          have e19 : (upd H18 l (.lst (([7, 6, 5, 4, 3, 2] : List Int).map V.int ++ [V.int 1]))) tl = some (.lst ([false, true, false].map V.bl)) := by rw [upd_ne nltl.symm]; exact e18
          generalize upd H18 l (.lst (([7, 6, 5, 4, 3, 2] : List Int).map V.int ++ [V.int 1])) = H19 at o19 s19 e19 ⊢
          -- if tells != .. or ..
          refine ⟨_, rfl, (by show 3 ≤ sizeLine; decide), fun m3 nm3 => ?_⟩
          have u20 := same_upd nm3 (o := .lst [V.bl false, V.bl true, V.bl false])
          refine ⟨_, _, dp_bools (bs := [false, true, false]) (u20 _ _ e19), dp_bools (bs := [false, true, false]) upd_same, shaped_bools3 _ _ _, shaped_bools3 _ _ _, false, by decide, iteF ?_⟩
          have o20 := o19.same u20
          have s20 := s19.trans u20
          generalize upd H19 m3 (.lst [V.bl false, V.bl true, V.bl false]) = H20 at o20 s20 ⊢
          obtain ⟨d20, k20⟩ := o20.ob
          refine ⟨_, rfl, y, d20, _, rfl, k20, cfs_no l, _, rfl, ?_⟩
          refine rd9 (R := R) rfl (s20 _ _ hR7) (cR7.same s20) fun H21 R6 s21 nR6 hr6 => ?_
          refine ⟨y, g, fr7, R6, row9, 7, l, c7, rfl, ask (s20.trans s21) hr6, o20.same s21, by decide, fun H22 s22 => ?_⟩
          refine ⟨_, _, rfl, rfl, false, by rw [ch9]; decide, iteF ?_⟩
          have s722 := (s20.trans s21).trans s22
          have lg22 := lg7.same s722
          -- great
          refine ⟨_, _, rfl, rfl, ⟨by decide, by decide, by decide⟩, (by show 2 ≤ sizeLine; decide), fun b0 nb0 => ?_⟩
          have w1 := same_upd nb0 (o := .tup [V.int ((10 : Int) ^ ((20 : Int).toNat)), V.non])
          refine ⟨_, _, rfl, rfl, ⟨by decide, by decide, by decide⟩, _, rfl, g, _, rfl, .inl (SqL.of (lg22.same w1)), _, _, rfl, rfl, _, _, rfl, rfl, _, _, rfl, rfl, .inl ⟨by decide, by decide⟩, (by show 2 ≤ sizeLine; decide), fun b1 nb1 => ?_⟩
          have w2 := same_upd nb1 (o := .tup [V.int 7, V.int ((10 : Int) ^ ((19 : Int).toNat) * (2 + ((fr7.map V.int).length : Int) + 1))])
          refine ⟨(by show 2 ≤ sizeLine; decide), fun gr ngr => ?_⟩
          have w3 := same_upd ngr (o := .lst [V.ref b0, V.ref b1])
          have kb0 : CellV _ (.ref b0) (some (100000000000000000000, none)) := CellV.same (w2.trans w3) (show CellV (upd H22 b0 (.tup [V.int ((10 : Int) ^ ((20 : Int).toNat)), V.non])) (.ref b0) (some (100000000000000000000, none)) from ⟨b0, rfl, upd_same⟩)
          have kb1 : CellV _ (.ref b1) (some (7, some 100000000000000000000)) := CellV.same w3 (show CellV (upd (upd H22 b0 (.tup [V.int ((10 : Int) ^ ((20 : Int).toNat)), V.non])) b1 (.tup [V.int 7, V.int ((10 : Int) ^ ((19 : Int).toNat) * (2 + ((fr7.map V.int).length : Int) + 1))])) (.ref b1) (some (7, some 100000000000000000000)) from ⟨b1, rfl, upd_same⟩)
          have hgr : (upd (upd (upd H22 b0 (.tup [V.int ((10 : Int) ^ ((20 : Int).toNat)), V.non])) b1 (.tup [V.int 7, V.int ((10 : Int) ^ ((19 : Int).toNat) * (2 + ((fr7.map V.int).length : Int) + 1))])) gr (.lst [V.ref b0, V.ref b1])) gr = some (.lst [V.ref b0, V.ref b1]) := upd_same
          generalize (upd (upd (upd H22 b0 (.tup [V.int ((10 : Int) ^ ((20 : Int).toNat)), V.non])) b1 (.tup [V.int 7, V.int ((10 : Int) ^ ((19 : Int).toNat) * (2 + ((fr7.map V.int).length : Int) + 1))])) gr (.lst [V.ref b0, V.ref b1])) = H23 at kb0 kb1 hgr ⊢
          -- told([0], great, 1)
          refine ⟨(by show 1 ≤ sizeLine; decide), fun z0 nz0 => ⟨_, rfl, ?_⟩⟩
          have x1 := same_upd nz0 (o := .lst [V.int 0])
          have AG : Asked (upd H23 z0 (.lst [V.int 0])) z0 [0] gr [some (100000000000000000000, none), some (7, some 100000000000000000000)] 1 := ⟨upd_same, frB_ok (by decide), ⟨_, x1 _ _ hgr, .cons (kb0.same x1) (.cons (kb1.same x1) .nil)⟩, rowB_ok (by decide), by decide⟩
          refine ⟨z0, [0], gr, _, 1, rfl, AG, fun _ H24 y24 d24 s24 ny24 h24 => ?_, fun c e => by rw [show chain [0] [some (100000000000000000000, none), some (7, some 100000000000000000000)] 1 = none by decide] at e; cases e⟩
          refine ⟨_, _, _, _, true, rfl, .own _, T.t_Fresh.ty T.k_Fresh h24, T.is_Fresh_Fresh, true, rfl, iteF ?_⟩
          -- great[1] = (7, 5)
          have x24 := x1.trans s24
          refine ⟨(by show 2 ≤ sizeLine; decide), fun b2 nb2 => ?_⟩
          have x25 := same_upd nb2 (o := .tup [V.int 7, V.int 5])
          have kb2 : CellV (upd H24 b2 (.tup [V.int 7, V.int 5])) (.ref b2) (some (7, some 5)) := ⟨b2, rfl, upd_same⟩
          have hgr25 := x25 _ _ (x24 _ _ hgr)
          have kb025 := (kb0.same x24).same x25
          generalize upd H24 b2 (.tup [V.int 7, V.int 5]) = H25 at kb2 hgr25 kb025 ⊢
          refine ⟨_, rfl, gr, _, _, 1, rfl, rfl, hgr25, rfl, ?_⟩
          have hgr26 : (upd H25 gr (.lst [V.ref b0, V.ref b2])) gr = some (.lst [V.ref b0, V.ref b2]) := upd_same
          have kb026 := kb025.upd hgr25 (o := .lst [V.ref b0, V.ref b2])
          have kb226 := kb2.upd hgr25 (o := .lst [V.ref b0, V.ref b2])
          have e26 : upd H25 gr (.lst ([V.ref b0, V.ref b1].set 1 (V.ref b2))) = upd H25 gr (.lst [V.ref b0, V.ref b2]) := rfl
          rw [e26]
          generalize upd H25 gr (.lst [V.ref b0, V.ref b2]) = H26 at hgr26 kb026 kb226 ⊢
          refine ⟨(by show 1 ≤ sizeLine; decide), fun z1 nz1 => ⟨_, rfl, ?_⟩⟩
          have x2 := same_upd nz1 (o := .lst [V.int 0])
          have AG2 : Asked (upd H26 z1 (.lst [V.int 0])) z1 [0] gr [some (100000000000000000000, none), some (7, some 5)] 1 := ⟨upd_same, frB_ok (by decide), ⟨_, x2 _ _ hgr26, .cons (kb026.same x2) (.cons (kb226.same x2) .nil)⟩, rowB_ok (by decide), by decide⟩
          refine ⟨z1, [0], gr, _, 1, rfl, AG2, (fun e => absurd e (by decide)), fun c e H27 y27 l27 s27 ny27 nl27 nn27 o27 => ?_⟩
          obtain ⟨d27, h27⟩ := o27.ob
          refine ⟨_, _, _, _, true, rfl, .own _, T.t_Old.ty T.k_Old h27, T.is_Old_Old, true, rfl, iteF ?_⟩
          -- the last two
          refine ⟨(by show 2 ≤ sizeLine; decide), fun f0 nf0 => ⟨(by show 2 ≤ sizeLine; decide), fun q0 nq0 => ⟨(by show 2 ≤ sizeLine; decide), fun q2 nq2 => ⟨(by show 3 ≤ sizeLine; decide), fun q3 nq3 => ?_⟩⟩⟩⟩
          have y1 := same_upd nf0 (o := .lst [V.int 0, V.int 0])
          have y2 := same_upd nq0 (o := .tup [V.int 0, V.non])
          have y3 := same_upd nq2 (o := .tup [V.int 3, V.int 1])
          have y4 := same_upd nq3 (o := .lst [V.ref q0, V.non, V.ref q2])
          have lf0 : LsAt _ f0 [0, 0] := LsAt.same ((y2.trans y3).trans y4) (show LsAt _ f0 [0, 0] from upd_same)
          have kq0 : CellV _ (.ref q0) (some (0, none)) := CellV.same (y3.trans y4) (show CellV _ (.ref q0) (some (0, none)) from ⟨q0, rfl, upd_same⟩)
          have kq2 : CellV _ (.ref q2) (some (3, some 1)) := CellV.same y4 (show CellV _ (.ref q2) (some (3, some 1)) from ⟨q2, rfl, upd_same⟩)
          have AL : Asked _ f0 [0, 0] q3 [some (0, none), none, some (3, some 1)] 2 := ⟨lf0, frB_ok (by decide), ⟨_, upd_same, .cons kq0 (.cons (show CellV _ .non none from rfl) (.cons kq2 .nil))⟩, rowB_ok (by decide), by decide⟩
          refine ⟨f0, [0, 0], q3, _, 2, rfl, AL, (fun e => absurd e (by decide)), fun c e H28 y28 l28 s28 ny28 nl28 nn28 o28 => ?_⟩
          have ec : c = [2] := by
            have h1 : chain [0, 0] [some (0, none), none, some (3, some 1)] 2 = some [2] := by decide
            rw [h1] at e
            exact (Option.some.inj e).symm
          subst ec
          obtain ⟨d28, h28⟩ := o28.ob
          refine ⟨y28, _, d28, _, _, rfl, h28, T.k_Old, T.n_Old_chain, cfs_at l28, (by show 1 ≤ sizeLine; decide), fun m4 nm4 => ?_⟩
          have y5 := same_upd nm4 (o := .lst [V.int 2])
          refine ⟨dI [2], dI [2], dp_ints (o28.ls.same y5), dp_ints (ns := [2]) upd_same, shaped_ints _, shaped_ints _, true, by decide, iteT ?_⟩
          refine ⟨(by show 1 ≤ sizeLine; decide), fun f9 nf9 => ⟨(by show 2 ≤ sizeLine; decide), fun q8 nq8 => ⟨(by show 2 ≤ sizeLine; decide), fun q9 nq9 => ?_⟩⟩⟩
          have y6 := same_upd nf9 (o := .lst [V.int 0])
          have y7 := same_upd nq8 (o := .tup [V.int 0, V.non])
          have y8 := same_upd nq9 (o := .lst [V.ref q8, V.non])
          have lf9 : LsAt _ f9 [0] := LsAt.same (y7.trans y8) (show LsAt _ f9 [0] from upd_same)
          have kq8 : CellV _ (.ref q8) (some (0, none)) := CellV.same y8 (show CellV _ (.ref q8) (some (0, none)) from ⟨q8, rfl, upd_same⟩)
          have AL9 : Asked _ f9 [0] q9 [some (0, none), none] 1 := ⟨lf9, frB_ok (by decide), ⟨_, upd_same, .cons kq8 (.cons (show CellV _ .non none from rfl) .nil)⟩, rowB_ok (by decide), by decide⟩
          refine ⟨f9, [0], q9, _, 1, rfl, AL9, (fun e => absurd e (by decide)), fun c e H29 y29 l29 s29 ny29 nl29 nn29 o29 => ?_⟩
          have ec : c = [1] := by
            have h1 : chain [0] [some (0, none), none] 1 = some [1] := by decide
            rw [h1] at e
            exact (Option.some.inj e).symm
          subst ec
          obtain ⟨d29, h29⟩ := o29.ob
          refine ⟨y29, _, d29, _, _, rfl, h29, T.k_Old, T.n_Old_chain, cfs_at l29, (by show 1 ≤ sizeLine; decide), fun m5 nm5 => ?_⟩
          have y9 := same_upd nm5 (o := .lst [V.int 1])
          refine ⟨dI [1], dI [1], dp_ints (o29.ls.same y9), dp_ints (ns := [1]) upd_same, shaped_ints _, shaped_ints _, qt (by decide) (q _)⟩

end PD

namespace PD
open PySem PySem.Spec PyProof.Rows L2
theorem facts {P : Program} {w : World} {K : PySem.W.Frag} {h : Heap} {mg : Str → Option Value} {f : Addr} (X : K.In h) (G : h.Ns mainGlobals mg) (hfa : mg ("law" : Str) = some (.ref f)) (c : He.SaysX fa fn [] [] ex w h K) :
    ∃ fd : FuncData, (∀ (t : Shared) (v : Value), BindsTo t fd ⟨[v], []⟩ [("_law_script", v)]) ∧ ∀ base : Heap, K.In base → base.Ns mainGlobals mg → FnG P w K mg base 8 f fd ["_law_script"] (spLaw K) := by
  have T : Tx K mg := tx_mk X G c
  obtain ⟨fd, F⟩ := T.F_law
  have e := hfa.symm.trans T.g_law
  cases e
  have b := FunD.bindsA (ps := ["_law_script"]) F fun _ _ _ _ _ _ us hl => match us, hl with | [_], _ => rfl
  refine ⟨fd, fun t v => b t [v] rfl, fun base _ _ => lawG T F⟩
end PD
open PySem PySem.W PySem.Calls PyProof.Rows
set_option maxRecDepth 100000 in
set_option maxHeartbeats 0 in
theorem PySem.Challenge.cw_phrasedesk_k04_whole_told_holds : PySem.Challenge.rw_phrasedesk_k04_whole_told.Holds := by
  w_on; o_law
  refine HandSHeadRun.head_any (r := OpenLaw.row PySem.Challenge.rw_phrasedesk_k04_whole_told) (q := view (OpenLaw.row PySem.Challenge.rw_phrasedesk_k04_whole_told).prog [54]) (H := PD.hk) (ob := PD.ob) (M := 6000) (loose := PD.loose) (d := HandSHeadRun.topDef (OpenLaw.row PySem.Challenge.rw_phrasedesk_k04_whole_told).prog 54) (kwd := []) PD.ob_eq
    (by kernel_rfl) (fun s => by kernel_rfl) PD.run (by kernel_rfl) (by kernel_rfl) (by kernel_rfl) (by rfl) (by first | assumption | decide +kernel) (by decide +kernel) ⟨rfl, rfl, rfl, rfl, rfl, by decide +kernel⟩ ?hw ?hc
  case hw => w_witness2
  case hc =>
    refine PD.walkG (l := PySem.Challenge.rw_phrasedesk_k04_whole_told) (n := 63) (lv := 8) (x := "_law_script") rfl (by decide) (by kernel_rfl) ⟨rfl, by decide, by decide⟩ ?F
    intro w mg fa h Y G hmg0
    obtain ⟨K, KX, c⟩ := Y
    have hmg : mg ("law" : PySem.Str) = some (.ref fa) := by
      have e : (HandSHeadRun.topDef (OpenLaw.row PySem.Challenge.rw_phrasedesk_k04_whole_told).prog 54).name = ("law" : PySem.Str) := by kernel_rfl
      rw [← e]
      exact hmg0
    obtain ⟨fd, hb, hF⟩ := PD.facts (P := (PySem.Challenge.rw_phrasedesk_k04_whole_told).prog) (w := w) KX G hmg c
    exact ⟨K, fd, PD.spLaw K, KX, hb, fun G' a ns _ _ hS => ⟨a, ns, rfl, hS, fun _ => rfl⟩, hF⟩
