import PyProof.Rows.All
import Wide.All
import OpenK.AllK
import Wide.FinOn
import HandS.ForMost
import HandS.Evl
import HandS.Codes
import HandS.RaiseMore
import PyProof.ReprRoads
import HandS.RaiseOp
import HandS.Walk
import PyProof.StrLawsRepr
import PyProof.FitsInt
import HandS.Lambda
import HandS.EndTab
import HandS.CallLocal
import HandS.EndOwn
import HandS.ExcInit
import HandS.ExcField
import HandS.ExcOwn
import HandS.WordsExc
import HandS.SortInts
import HandS.Style
import PyProof.StrLawsOcc
import HandS.StrMore
import PySem.Challenge.RW_leastlaid_k04_words_that_would_be_glued
set_option Elab.async false
set_option linter.all false
set_option maxRecDepth 100000
set_option maxHeartbeats 4000000
/-! Own words, for every law: defs whose promise is kept where no repr is under way (FnG), repr of data, a list's item changed by +=. -/
namespace Vf
open PySem PySem.Spec PyProof.Rows L2

/-- a def that keeps its promise wherever no repr is under way -/
structure FnG (P : Program) (w : World) (K : PySem.W.Frag)
    (mg : Str → Option Value) (base : Heap) (k : Nat) (f : Addr)
    (fd : FuncData) (ps : List Str) (sp : Sp) : Prop where
  many : ∀ vs H Q E, sp vs H Q E → vs.length = ps.length
  go : ∀ (A : Around) (outer : List Env) (s : Shared) (H : Hp)
    (args : Args) (us : List Value) (vs : List V) (Q : VK) (E : XK),
    Room k A → A.guards = some [] → Env0 P w K mg base A outer s H →
    BindsTo s fd args (ps.zip us) → Vals vs us → sp vs H Q E →
    codeAny (model P w) A (.call (.ref f) args)
      (CR CX0 outer P w H s Q E) s

section
variable {P : Program} {w : World} {K : PySem.W.Frag}
  {mg : Str → Option Value} {base : Heap}

theorem FnG.of_fn {k : Nat} {f : Addr} {fd : FuncData} {ps : List Str} {sp : Sp}
    (F : FnOk P w K mg base CX0 k f fd ps sp) : FnG P w K mg base k f fd ps sp :=
  ⟨F.len, fun A o s H a us vs Q E hr _ e b r q =>
    F.run A o s H a us vs Q E hr e b r q⟩

/-- by its body, as Fun.ok does it -/
theorem fnG_of {x qual : Str} {st : Stmt} {f : Addr} {fd : FuncData}
    {N ps : List Str} {k : Nat} {sp : Sp}
    (F : Fun K x qual st f fd) (S : FnScope N ps (defScope st))
    (many : ∀ vs H Q E, sp vs H Q E → vs.length = ps.length)
    (body : ∀ (cdv : Value) (A : Around) (outer : List Env)
      (s : Shared) (H : Hp) (vs : List V) (Q : VK) (E : XK),
      Room k (A.deeper (envOfC qual (defScope st)
        s.heap.objs.size f cdv)) →
      A.guards = some [] → sp vs H Q E →
      ∃ t, PSs (cxOf CX0 P w K mg base N qual (defScope st)
          f cdv A outer s H E).nox (defBody st) t ∧
        t { nx := fun _ H' => Q .non H', rt := Q }
          (start N vs) H) :
    FnG P w K mg base (k + 1) f fd ps sp := by
  obtain ⟨_, _, _, _, _, _, cdv, _, _, rfl, lk, hcd⟩ := F.ex
  refine ⟨many, fun A outer s H args us vs Q E hr hg e0 hb r hsp => ?_⟩
  have hlen := many _ _ _ _ hsp
  have KX : K.In s.heap := e0.mod.kin.keeps
    (fun b o e => (e0.bs b o e).1)
  have lim := e0.mod.nolimit.keeps
    (fun b o e => (e0.bs b o e).1)
  have kinds : ∀ y ∈ ps.zip us,
      (defScope st).names.lookup y.1 = some .local ∨
      ((defScope st).names.lookup y.1 = some .cell ∧
        ((cellsFrom (s.heap.objs.size + 1)
          (defScope st).names []).lookup y.1).isSome = true) := by
    rintro ⟨n, v⟩ hy
    cases S.par n (List.of_mem_zip hy).1 with
    | inl q => exact .inl q
    | inr q => exact .inr ⟨q, PySem.W.cellsFrom_some _ _ _ (.inl q)⟩
  refine codeAny_call_function hr.depth (KX _ _ lk) rfl
    S.co S.gen rfl (PySem.W.codeRec_of KX hcd) (hb _ _ _ _ ?_)
  refine wpAny_newFunctionEnv_cells S.kind kinds
    (fun env he s1 x => ?_)
  subst he
  refine ⟨lim.keeps x.toInCall.keep, codeAny_func ?_⟩
  obtain ⟨t, ht, hq⟩ := body cdv A outer s H vs Q E
    (hr.deeper _) hg hsp
  have I := inv_start (CX := CX0) (E := E) S hr.hd e0 hlen r x
  refine wpAny_mono (ht.nox.run [] s1 (start N vs) H _ I hq)
    (fun fl s' hs => ?_) (fun _ _ hs => hs)
  cases fl with
  | brk => exact (hs.choose_spec.choose_spec.2 : False).elim
  | cont => exact (hs.choose_spec.choose_spec.2 : False).elim
  | next =>
    obtain ⟨_, H', J, q⟩ := hs
    exact ⟨V.non, H', J.os, J.bare, J.base, J.hok, rfl, q⟩
  | ret u =>
    obtain ⟨v, _, H', J, rv, q⟩ := hs
    exact ⟨v, H', J.os, J.bare, J.base, J.hok, rv, q⟩
end

/-- a call of such a def -/
theorem pe_callG {X : Cx} {k : Nat} {f : Addr} {fd : FuncData}
    {ps : List Str} {sp : Sp} {x : Str} {p pos : Pos}
    {e : Expr} {es : List Expr} {t : TA}
    (F : FnG X.prog X.w X.K X.mg X.base k f fd ps sp)
    (hr : Room k X.A) (gd : X.A.guards = some [])
    (hg : Gl X x) (hm : X.mg x = some (.ref f))
    (hk : PySem.W.keepIn X.K (.ref f) = true)
    (hb : Binds X.K fd ps []) (ha : PA X (e :: es) t)
    (hdb : (x == ("__debug__" : Str)) = false := by decide)
    (he : starEach (e :: es) X.env =
      (false, eval e X.env) :: starEach es X.env := by rfl)
    (hpl : (backTo pos (starEach es X.env)).any (·.1) = false := by rfl) :
    PE X (.Call (.Name x p) (e :: es) [] pos) (tCall sp [] E0 t) := by
  refine ⟨fun pins s σ H Q I h => wpAny_Call_Name_kw (ld_glob I hg hm ?_ hdb)⟩
  refine PySem.W.callWith_K (h₀ := X.base) I.ok.mod.kin hk
    (thn (ha.run pos pins s σ H _ I h) ?_) he hpl
  rintro us s1 ⟨vs, H1, I1, r, q⟩
  refine ⟨I1.kIn, ?_⟩
  have q' : sp vs H1 Q E0 := by
    have := q
    rw [List.append_nil] at this
    exact this
  have hl : us.length = ps.length := by
    rw [← r.length]
    exact F.many _ _ _ _ q'
  have hb' := hb s1 us I1.kIn (by rw [List.append_nil]; exact hl)
  rw [List.append_nil] at hb'
  refine wpAny_call (codeAny_mono (F.go X.A X.stack s1 H1 ⟨us, []⟩ us vs
    Q E0 hr gd I1.env0 hb' r q') ?_)
  intro res s' hq
  cases res with
  | error e => exact (hq : False).elim
  | ok fl =>
    cases fl with
    | ret u => exact I1.after hq
    | next => exact (hq : False).elim
    | brk => exact (hq : False).elim
    | cont => exact (hq : False).elim

/-- repr of a list or a tuple of data -/
theorem call_reprD {X : Cx} (gd : X.A.guards = some []) (hu : X.A.units + 64 < cLine) :
    CallR X (.builtin "repr") (fun xs H Q => ∃ a d, xs = [.ref a] ∧
      Dp X.K H (.ref a) d ∧ d.showable = true ∧ d.hasDict = false ∧
      d.depth ≤ 60 ∧ d.shown.length ≤ sizeLine ∧ Q (.str d.shown) H) := by
  intro pins s σ H xs us Q I r h
  obtain ⟨a, d, rfl, hd, sh, nd, dp, sz, q⟩ := h
  cases r with
  | cons rv rn =>
    cases rn
    obtain rfl := rv
    obtain ⟨as, rd⟩ := Dp.reads I d _ _ hd rfl
    refine repr_of_reads' rd sh (PyData.noDict_hsm nd) gd (by omega)
      (fun _ _ e => e) (fun h' u tk hk => ?_) sz
    exact ⟨.str d.shown, H, I.kept hk, ⟨u, rfl⟩, q⟩

end Vf

set_option Elab.async false
set_option linter.all false
set_option maxRecDepth 100000
set_option maxHeartbeats 4000000
/-! The end of a law whose def is an FnG. -/
namespace Vf
open PySem PySem.Spec PyProof.Rows L2

section
variable {P : Program} {w : World} {K : PySem.W.Frag}
  {mg mb : Str → Option Value} {k : Nat} {fa a : Addr} {fd : FuncData}
  {x : Str} {sp : Sp} {s₁ : Shared} {vs : List Value} {ns : List Int}

/-- what must be true behind the call -/
abbrev LawEnd (s₁ : Shared) : Result → Shared → Prop := fun r s' =>
  r = .ok (.ret (.bool true)) ∧ OldK s₁.heap s'.heap ∧
    s'.os = s₁.os ∧ AllBare s'.gens

theorem law_goes (KX : K.In s₁.heap)
    (hns : s₁.heap.Ns mainGlobals mg) (hb : s₁.heap.Ns builtinsNs mb)
    (hbb : ∀ y : Str, y ≠ "__name__" → mb y = bootBuiltins y)
    (hlim : s₁.heap.NoLimit) (hgen : s₁.gens = #[])
    (ha : s₁.heap.get? a =
      some { cls := .type "list", data := .seq vs.toArray })
    (hr : Room k callerA)
    (F : ∀ base : Heap, K.In base → base.Ns mainGlobals mg →
      FnG P w K mg base k fa fd [x] sp)
    (bind : ∀ (s : Shared) (u : Value),
      BindsTo s fd ⟨[u], []⟩ [(x, u)])
    (H : Hp) (hO : Only H) (ok : HOk P w H s₁.heap)
    (alone : ∀ b, H b ≠ none → b = a)
    (notK : H a ≠ none → K.lookup a = none)
    (hs : sp [.ref a] H (fun v _ => v = .bl true) fun _ _ _ => False) :
    codeAny (model P w) callerA (.call (.ref fa) ⟨[.ref a], []⟩)
      (LawEnd s₁) s₁ := by
  have free : ∀ {b : Addr} {o : Obj} {es : Array DictEntry} {ep : Nat},
      s₁.heap.get? b = some o → o.data = .dict es ep → H b = none := by
    intro b o es ep e d
    cases q : H b with
    | none => rfl
    | some u =>
      have z : b = a := alone b (by rw [q]; exact Option.some_ne_none u)
      rw [z, ha] at e
      cases e
      cases d
  have ns' : ∀ {b : Addr} {m : Str → Option Value},
      s₁.heap.Ns b m → (hidT s₁.heap H).Ns b m := by
    rintro b m ⟨o, es, ep, e, d, r⟩
    exact ⟨o, es, ep, hidT_get e (free e d), d, r⟩
  have kin : K.In (hidT s₁.heap H) := by
    intro b o e
    refine hidT_get (KX b o e) ?_
    cases q : H b with
    | none => rfl
    | some u =>
      have z : b = a := alone b (by rw [q]; exact Option.some_ne_none u)
      have z2 := notK (by rw [← z, q]; exact Option.some_ne_none u)
      rw [z, z2] at e
      cases e
  have lim' : (hidT s₁.heap H).NoLimit := by
    obtain ⟨mc, h1, h2⟩ := hlim
    exact ⟨mc, ns' h1, h2⟩
  have M : Mod K mg (hidT s₁.heap H) :=
    ⟨kin, ns' hns, ⟨mb, ns' hb, hbb⟩, lim'⟩
  have none_in : ∀ b : Addr, b ∉ ([] : List Addr) := fun b => by simp
  have env : Env0 P w K mg (hidT s₁.heap H) callerA [] s₁ H :=
    ⟨rfl, M, fun b o e => of_hidT e, Nat.le_of_eq (hidT_size _ _),
      trivial, fun b z => absurd z (none_in b), ok, .of_eq hgen⟩
  refine codeAny_mono ((F _ kin (ns' hns)).go callerA [] s₁ H
    ⟨[.ref a], []⟩ [.ref a] [.ref a] _ _ hr rfl env
    (bind s₁ (.ref a)) (.cons rfl .nil) hs) ?_
  intro r s' h
  cases r with
  | error e => exact (h : False).elim
  | ok fl =>
    cases fl with
    | next => exact (h : False).elim
    | brk => exact (h : False).elim
    | cont => exact (h : False).elim
    | ret u =>
      obtain ⟨v, H', os, bare, un, ok', rv, q⟩ := h
      obtain rfl : v = .bl true := q
      obtain rfl : u = Value.bool true := rv
      refine ⟨rfl, OldK.of_keep (fun b o e => ?_), os, bare⟩
      cases q : H b with
      | none => exact un.keep b o e q (none_in b) (none_in b)
      | some u =>
        rcases hO b with z | ⟨ob, xs, z⟩
        · rw [q] at z
          cases z
        · obtain ⟨e1, _⟩ := ok b _ z
          obtain ⟨e2, _⟩ := ok' b _ (un.frzs b ob _ z)
          rw [e] at e1
          cases e1
          exact e2

theorem law_goes2 (KX : K.In s₁.heap)
    (hns : s₁.heap.Ns mainGlobals mg) (hb : s₁.heap.Ns builtinsNs mb)
    (hbb : ∀ y : Str, y ≠ "__name__" → mb y = bootBuiltins y)
    (hlim : s₁.heap.NoLimit) (hgen : s₁.gens = #[])
    (ha : s₁.heap.get? a =
      some { cls := .type "list", data := .seq vs.toArray })
    (hi : IntsAre vs ns) (hl : ns.length ≤ sizeLine)
    (hr : Room k callerA)
    (F : ∀ base : Heap, K.In base → base.Ns mainGlobals mg →
      FnG P w K mg base k fa fd [x] sp)
    (bind : ∀ (s : Shared) (u : Value),
      BindsTo s fd ⟨[u], []⟩ [(x, u)])
    (hs : ∀ H : Hp, Only H → SqL K H a (ns.map V.int) →
      sp [.ref a] H (fun v _ => v = .bl true) fun _ _ _ => False) :
    codeAny (model P w) callerA (.call (.ref fa) ⟨[.ref a], []⟩)
      (LawEnd s₁) s₁ := by
  have rv := vals_ints hi
  cases hk : K.lookup a with
  | some o =>
    have e := KX a o hk
    rw [ha] at e
    cases e
    refine law_goes KX hns hb hbb hlim hgen ha hr F bind
      (fun _ => none) (fun _ => .inl rfl) (fun b u z => by cases z)
      (fun b z => absurd rfl z) (fun z => absurd rfl z) (hs _ (fun _ => .inl rfl) ?_)
    refine .inr ⟨_, vs.toArray, _, hk, rfl, rfl, rfl, ?_, by simpa using rv⟩
    rw [List.size_toArray, hi.length]
    exact hl
  | none =>
    have only : Only (fun b => if b = a then some (.frz { cls := .type "list", data := .seq vs.toArray } (.lst (ns.map V.int))) else none) := by
      intro b
      by_cases q : b = a
      · exact .inr ⟨_, _, if_pos q⟩
      · exact .inl (if_neg q)
    refine law_goes KX hns hb hbb hlim hgen ha hr F bind _ only
      (fun b u z => ?_) (fun b z => ?_) (fun _ => hk)
      (hs _ only (.inl (.inr ⟨_, if_pos rfl⟩)))
    · by_cases q : b = a
      · have z' := (if_pos q).symm.trans z
        cases z'
        subst q
        exact ⟨ha, by rw [List.length_map]; exact hl, vs, _, rv, ha⟩
      · have z' := (if_neg q).symm.trans z
        cases z'
    · by_cases q : b = a
      · exact q
      · exact absurd (if_neg q) z
end

/-- the goal that the head leaves -/
theorem walk_ofG {l : PySem.W.OpenLaw} {n k : Nat} {q : Program}
    {loose : List Str} {XP : (Str → Option Value) → Heap → Prop}
    {YP : World → Heap → Prop} {d : DefRec}
    {K : Params → PySem.W.Frag} {sp : World → Sp} {x : Str}
    (hn : l.most = some n) (hn2 : n ≤ sizeLine)
    (hdf : d.params.defaults = []) (hr : Room k callerA)
    (hY : ∀ (w : World) (h : Heap), YP w h → (K w.params).In h)
    (F : ∀ (w : World) (mg : Str → Option Value) (fa : Addr) (h : Heap),
      (K w.params).In h → h.Ns mainGlobals mg →
      mg d.name = some (.ref fa) →
      ∃ fd : FuncData,
        (∀ (s : Shared) (u : Value), BindsTo s fd ⟨[u], []⟩ [(x, u)]) ∧
        ∀ base : Heap, (K w.params).In base → base.Ns mainGlobals mg →
          FnG l.prog w (K w.params) mg base k fa fd [x] (sp w))
    (hsp : ∀ (w : World) (H : Hp) (a : Addr) (ns : List Int),
      ns.length ≤ n → Only H → SqL (K w.params) H a (ns.map V.int) →
      sp w [.ref a] H (fun v _ => v = .bl true) fun _ _ _ => False) :
    PySem.W.WalkO q loose XP YP l.row.toRowW d []
      (fun f vs => PySem.call f vs) := by
  refine Att.attach_call hn hdf ?_
  intro w s₀ s₁ mg mb fa o pm cd doc a vs ns G Y ho hd hcd hmg hobj hints hlen hg
  have KX := hY w _ Y
  obtain ⟨fd, hb, hF⟩ := F w mg fa _ KX G.T.g hmg
  exact law_goes2 KX G.T.g G.T.b G.T.builtins G.T.nolimit hg hobj
    hints (Nat.le_trans hlen hn2) hr hF hb
    (fun H hO hS => hsp w H a ns hlen hO hS)
end Vf

set_option Elab.async false
set_option linter.all false
set_option maxRecDepth 100000
set_option maxHeartbeats 4000000
/-! Own words: defs of the module as they are called; a list's item by +=; the bag of a law's draws. -/
namespace Vf
open PySem PySem.Spec PyProof.Rows L2
open C8 (Cal pe_c pe_gc CalAt)

/-- a def of the text, as the top has laid it -/
structure DefIn (K : PySem.W.Frag) (mg : Str → Option Value) (x : Str) (st : Stmt) (ps : List Str) : Prop where
  ex : ∃ f fd, Fun K x x st f fd ∧ mg x = some (.ref f) ∧ Binds K fd ps []

section
variable {P : Program} {w : World} {K : PySem.W.Frag} {mg : Str → Option Value} {base : Heap}

theorem defIn_mk {x : Str} {st : Stmt} {ps : List Str} {h : Heap} {f : Addr} {oc : Value} {od an : Option Addr} {osl : Array (Option Value)} {kV doc pm cdv ct : Value}
    (X : K.In h) (G : h.Ns mainGlobals mg) (a : PySem.W.nsIn K mainGlobals x = some (some (.ref f)))
    (l : K.lookup f = some ⟨oc, od, .func (PySem.W.fnOf x x (defArgs st) (defBody st) (defScope st) .none kV doc pm an cdv ct), osl⟩)
    (c : PySem.W.codeIn K cdv x = true) (k : PySem.W.keepIn K (.ref f) = true)
    (b : ∀ (kV doc pm : Value) (an : Option Addr) (cdv ct : Value) (us : List Value), us.length = ps.length →
      bindArgs (PySem.W.fnOf x x (defArgs st) (defBody st) (defScope st) .none kV doc pm an cdv ct) ⟨us, []⟩ = pure (ps.zip us)) : DefIn K mg x st ps := by
  have F := fun_mk (st := st) l c k
  exact ⟨f, _, F, PySem.W.mg_of X G a, F.binds b⟩
theorem calOf {x : Str} {st : Stmt} {N ps : List Str} {k : Nat} {sp : Sp}
    (D : DefIn K mg x st ps) (S : FnScope N ps (defScope st))
    (many : ∀ vs H Q E, sp vs H Q E → vs.length = ps.length)
    (body : ∀ (f : Addr) (cdv : Value) (A : Around) (outer : List Env) (s : Shared) (H : Hp) (vs : List V) (Q : VK) (E : XK),
      Room k (A.deeper (envOfC x (defScope st) s.heap.objs.size f cdv)) → sp vs H Q E →
      ∃ t, PSs (cxOf CX0 P w K mg base N x (defScope st) f cdv A outer s H E).nox (defBody st) t ∧ t { nx := fun _ H' => Q .non H', rt := Q } (start N vs) H) :
    Cal P w K mg base (k + 1) x sp [] := by
  obtain ⟨f, fd, F, hm, hb⟩ := D.ex
  exact ⟨f, fd, ps, [], F.ok S many (fun cdv A o s H vs Q E hr h => body f cdv A o s H vs Q E hr h), hm, F.kp, hb, .nil⟩

/-- such a def, where no repr is under way -/
structure CalG (P : Program) (w : World) (K : PySem.W.Frag) (mg : Str → Option Value) (base : Heap) (k : Nat) (x : Str) (sp : Sp) : Prop where
  ex : ∃ (f : Addr) (fd : FuncData) (ps : List Str), FnG P w K mg base k f fd ps sp ∧ mg x = some (.ref f) ∧ PySem.W.keepIn K (.ref f) = true ∧ Binds K fd ps []
theorem calGOf {x : Str} {st : Stmt} {N ps : List Str} {k : Nat} {sp : Sp}
    (D : DefIn K mg x st ps) (S : FnScope N ps (defScope st))
    (many : ∀ vs H Q E, sp vs H Q E → vs.length = ps.length)
    (body : ∀ (f : Addr) (cdv : Value) (A : Around) (outer : List Env) (s : Shared) (H : Hp) (vs : List V) (Q : VK) (E : XK),
      Room k (A.deeper (envOfC x (defScope st) s.heap.objs.size f cdv)) → A.guards = some [] → sp vs H Q E →
      ∃ t, PSs (cxOf CX0 P w K mg base N x (defScope st) f cdv A outer s H E).nox (defBody st) t ∧ t { nx := fun _ H' => Q .non H', rt := Q } (start N vs) H) :
    CalG P w K mg base (k + 1) x sp := by
  obtain ⟨f, fd, F, hm, hb⟩ := D.ex
  exact ⟨f, fd, ps, fnG_of F S many (fun cdv A o s H vs Q E hr h => body f cdv A o s H vs Q E hr h), hm, F.kp, hb⟩
end

section
variable {X : Cx} {k j : Nat} {x : Str} {sp : Sp} {p pos : Pos} {e o i : Expr} {es : List Expr} {t : TA}
theorem pe_c0 (c : Cal X.prog X.w X.K X.mg X.base k x sp []) (hr : Room j X.A) (hk : k ≤ j) (hg : Gl X x)
    (hdb : (x == ("__debug__" : Str)) = false := by decide) : PE X (.Call (.Name x p) [] [] pos) (tCall sp [] E0 tNil) := by
  obtain ⟨f, fd, ps, ds, F, hm, kp, b, d⟩ := c.ex
  exact pe_call0 F (hr.mono hk) hg hm kp b d pass0 hdb
theorem pe_cG (c : CalG X.prog X.w X.K X.mg X.base k x sp) (hr : Room k X.A) (gd : X.A.guards = some []) (hg : Gl X x) (ha : PA X (e :: es) t)
    (hdb : (x == ("__debug__" : Str)) = false := by decide) (he : starEach (e :: es) X.env = (false, eval e X.env) :: starEach es X.env := by rfl) (hpl : (backTo pos (starEach es X.env)).any (·.1) = false := by rfl) :
    PE X (.Call (.Name x p) (e :: es) [] pos) (tCall sp [] E0 t) := by
  obtain ⟨f, fd, ps, F, hm, kp, b⟩ := c.ex
  exact pe_callG F hr gd hg hm kp b ha hdb he hpl

/-- xs[i] read on the way of xs[i] += .. -/
theorem get_list : PGet X (rIxL X.K) := by
  intro pins s σ H x y v u Q I rx ry h
  obtain ⟨p, xs, i, z, rfl, rfl, hq, he, q⟩ := h
  cases rx
  obtain ⟨t, rfl⟩ := ry
  obtain ⟨its, r, pl, hz⟩ := I.list hq
  obtain ⟨j, h1, h2, h3, h4, h5⟩ := atI_get he
  obtain ⟨w, ew, rw'⟩ := r.get h2
  have hl := r.length
  have hn := line63
  have fin : EP X pins σ Q w s := ⟨z, H, I, rw', q⟩
  by_cases h0 : 0 ≤ i
  · have hj : i.toNat = j := by
      rw [seqIndex_of h0 h5] at h1
      exact Option.some.inj h1
    exact wpAny_getItem_list pl.isList h0 (by omega) (by rw [hj]; simpa using ew) fin
  · have hj : (i + (its.toArray.size : Int)).toNat = j := by
      rw [seqIndex_neg (by omega) h4] at h1
      rw [List.size_toArray, ← hl]
      exact Option.some.inj h1
    exact wpAny_getItem_list_neg pl.isList (by omega) (by rw [List.size_toArray]; omega) (by omega) (by rw [hj]; simpa using ew) fin
end

/-! ### the bag -/
/-- all but b stands as it stood -/
def Fr (b : Addr) (H H' : Hp) : Prop := ∀ a o, a ≠ b → H a = some o → H' a = some o
theorem Fr.refl (b : Addr) (H : Hp) : Fr b H H := fun _ _ _ h => h
theorem Fr.trans {b : Addr} {H H1 H2 : Hp} (x : Fr b H H1) (y : Fr b H1 H2) : Fr b H H2 := fun a o n h => y a o n (x a o n h)
theorem Fr.new {b p : Addr} {H H' : Hp} {o : HO} (x : Fr b H H') (n : H' p = none) : Fr b H (upd H' p o) := fun a u na h => by
  have := x a u na h
  rw [upd_ne (ne_of_none this n)]
  exact this
theorem Fr.at {b : Addr} {H H' : Hp} {o : HO} (x : Fr b H H') : Fr b H (upd H' b o) := fun a u na h => by
  rw [upd_ne na]
  exact x a u na h
theorem Fr.put {b p : Addr} {H H' : Hp} {o : HO} (x : Fr b H H') (n : H p = none) : Fr b H (upd H' p o) := fun a u na h => by
  rw [upd_ne (ne_of_none h n)]
  exact x a u na h
/-- tuples stay -/
def Tk (H H' : Hp) : Prop := ∀ a xs, H a = some (.tup xs) → H' a = some (.tup xs)
theorem Tk.refl (H : Hp) : Tk H H := fun _ _ h => h
theorem Tk.trans {H H1 H2 : Hp} (x : Tk H H1) (y : Tk H1 H2) : Tk H H2 := fun a o h => y a o (x a o h)
theorem Tk.of {H H' : Hp} (x : Same H H') : Tk H H' := fun a o h => x a _ h
theorem Tk.new {p : Addr} {H H' : Hp} {o : HO} (x : Tk H H') (n : H' p = none) : Tk H (upd H' p o) := fun a u h => by
  have := x a u h
  rw [upd_ne (ne_of_none this n)]
  exact this
theorem Tk.put {p : Addr} {H H' : Hp} {o : HO} (x : Tk H H') (n : ∀ xs, H p ≠ some (.tup xs)) : Tk H (upd H' p o) := fun a u h => by
  by_cases q : a = p
  · rw [q] at h
    exact absurd h (n u)
  · rw [upd_ne q]
    exact x a u h

/-- a bag stands at b, its numbers at L -/
structure Bg where
  b : Addr
  L : Addr
/-- the six things in a bag: c and e the last two -/
structure Bag (H : Hp) (g : Bg) (c e : Int) : Prop where
  ex : ∃ (z m i : Int) (ns : List Int),
    H g.b = some (.lst [.int z, .int m, .int i, .ref g.L, .int c, .int e]) ∧ H g.L = some (.lst (ns.map V.int)) ∧
    0 ≤ z ∧ 0 ≤ m ∧ m < 2147483647 ∧ 0 ≤ i ∧ (∀ n ∈ ns, (0 : Int) ≤ n) ∧ ns.length ≤ 63
  ne : g.L ≠ g.b
theorem Bag.ob {H : Hp} {g : Bg} {c e : Int} (B : Bag H g c e) : ∃ o, H g.b = some (.lst o) := by
  obtain ⟨z, m, i, ns, h, _⟩ := B.ex
  exact ⟨_, h⟩
theorem Bag.obL {H : Hp} {g : Bg} {c e : Int} (B : Bag H g c e) : ∃ o, H g.L = some (.lst o) := by
  obtain ⟨z, m, i, ns, h, h2, _⟩ := B.ex
  exact ⟨_, h2⟩
theorem Bag.ne_new {H : Hp} {g : Bg} {p : Addr} {c e : Int} (B : Bag H g c e) (n : H p = none) : p ≠ g.b := fun z => by
  obtain ⟨o, h⟩ := B.ob
  rw [← z, n] at h
  cases h
theorem Bag.ne_newL {H : Hp} {g : Bg} {p : Addr} {c e : Int} (B : Bag H g c e) (n : H p = none) : p ≠ g.L := fun z => by
  obtain ⟨o, h⟩ := B.obL
  rw [← z, n] at h
  cases h
theorem Bag.put {H : Hp} {g : Bg} {p : Addr} {c e : Int} {o : HO} (B : Bag H g c e) (n : p ≠ g.b) (n2 : p ≠ g.L) : Bag (upd H p o) g c e := by
  obtain ⟨z, m, i, ns, h, h2, r⟩ := B.ex
  exact ⟨⟨z, m, i, ns, by rw [upd_ne n.symm]; exact h, by rw [upd_ne n2.symm]; exact h2, r⟩, B.ne⟩
theorem Bag.new {H : Hp} {g : Bg} {p : Addr} {c e : Int} {o : HO} (B : Bag H g c e) (n : H p = none) : Bag (upd H p o) g c e := B.put (B.ne_new n) (B.ne_newL n)
theorem Bag.same {H H' : Hp} {g : Bg} {c e : Int} (B : Bag H g c e) (n : Same H H') : Bag H' g c e := by
  obtain ⟨z, m, i, ns, h, h2, r⟩ := B.ex
  exact ⟨⟨z, m, i, ns, n _ _ h, n _ _ h2, r⟩, B.ne⟩
theorem Bag.tk {H H' : Hp} {g : Bg} {c e : Int} (B : Bag H g c e) (f : Fr g.b H H') : Tk H H' := fun a xs h => f a _ (fun z => by
  obtain ⟨o, h2⟩ := B.ob
  rw [← z, h] at h2
  cases h2) h
/-- behind a draw: the bag stands, and all else -/
structure Drawn (g : Bg) (H H' : Hp) (c e : Int) : Prop where
  bag : Bag H' g c e
  fr : Fr g.b H H'
  tk : Tk H H'
section
variable {g : Bg} {a p : Addr} {H H1 H2 H' : Hp} {c e c' e' : Int} {o : HO}
theorem Drawn.trans (x : Drawn g H H1 c e) (y : Drawn g H1 H2 c' e') : Drawn g H H2 c' e' := ⟨y.bag, x.fr.trans y.fr, x.tk.trans y.tk⟩
theorem Drawn.new (x : Drawn g H H' c e) (n : H' p = none) : Drawn g H (upd H' p o) c e := ⟨x.bag.new n, x.fr.new n, x.tk.new n⟩
theorem Drawn.of (B : Bag H g c e) : Drawn g H H c e := ⟨B, .refl _ _, .refl _⟩
theorem Drawn.mk' (B : Bag H g c' e') (B' : Bag H' g c e) (f : Fr g.b H H') : Drawn g H H' c e := ⟨B', f, B.tk f⟩
theorem Drawn.same (B : Bag H g c e) (n : Same H H') : Drawn g H H' c e := ⟨B.same n, fun a o _ h => n a o h, .of n⟩
/-- a store into what H did not know -/
theorem Drawn.put (x : Drawn g H H' c e) (B : Bag H g c' e') (n : H p = none) : Drawn g H (upd H' p o) c e :=
  ⟨x.bag.put (B.ne_new n) (B.ne_newL n), x.fr.put n, x.tk.put fun xs h => by rw [n] at h; cases h⟩
theorem Drawn.keep (x : Drawn g H H' c e) (n : a ≠ g.b) (h : H a = some o) : H' a = some o := x.fr a o n h
theorem upd_some {u : HO} (h : H a = some o) (n : H p = none) : upd H p u a = some o := by
  rw [upd_ne (ne_of_none h n)]
  exact h
theorem Drawn.seqL {K : PySem.W.Frag} {xs : List V} (x : Drawn g H H' c e) (n : a ≠ g.b) (h : SqL K H a xs) : SqL K H' a xs := by
  rcases h with (h | ⟨o, h⟩) | h
  · exact .inl (.inl (x.fr _ _ n h))
  · exact .inl (.inr ⟨o, x.fr _ _ n h⟩)
  · exact .inr h
theorem Drawn.seqT {K : PySem.W.Frag} {xs : List V} (x : Drawn g H H' c e) (n : a ≠ g.b) (h : SqT K H a xs) : SqT K H' a xs := by
  rcases h with (h | ⟨o, h⟩) | h
  · exact .inl (.inl (x.fr _ _ n h))
  · exact .inl (.inr ⟨o, x.fr _ _ n h⟩)
  · exact .inr h
end
/-- an item below the length -/
theorem at_of {α : Type} {xs : List α} {r : Int} (h0 : 0 ≤ r) (h1 : r < (xs.length : Int)) : ∃ v, v ∈ xs ∧ atI xs r = some v := by
  obtain ⟨j, rfl⟩ := Int.eq_ofNat_of_zero_le h0
  have hj : j < xs.length := by omega
  exact ⟨xs[j], List.getElem_mem hj, atI_nat (j := j) (List.getElem?_eq_getElem hj)⟩

/-! ### what defs that draw promise -/
/-- a draw below n -/
def spTake : Sp := fun vs H Q _ => ∃ (g : Bg) (n c e : Int), vs = [.ref g.b, .int n] ∧ Bag H g c e ∧ 0 < n ∧ n < 1073741824 ∧
  ∀ (r : Int) (H' : Hp), 0 ≤ r → r < n → Drawn g H H' c e → Q (.int r) H'
/-- a list, a tuple, or a text is handed in, one of its items comes back -/
def spOne (K : PySem.W.Frag) : Sp := fun vs H Q _ => ∃ (g : Bg) (x : V) (c e : Int), vs = [.ref g.b, x] ∧ Bag H g c e ∧
  ((∃ p xs, x = .ref p ∧ (SqL K H p xs ∨ SqT K H p xs) ∧ p ≠ g.b ∧ 0 < xs.length ∧ xs.length < 1000 ∧ ∀ (v : V) (H' : Hp), v ∈ xs → Drawn g H H' c e → Q v H') ∨
   (∃ z : Str, x = .str z ∧ 0 < z.length ∧ z.length < 1000 ∧ ∀ (h : Nat) (H' : Hp), h ∈ z.cps.toList → Drawn g H H' c e → Q (.str ⟨#[h]⟩) H'))

/-! ### data in tuples -/
mutual
/-- what stands there, and lies in tuples alone -/
inductive Tr (H : Hp) : V → PyData → Prop
  | non : Tr H .non .none
  | bl (b : Bool) : Tr H (.bl b) (.bool b)
  | int (i : Int) : Tr H (.int i) (.int i)
  | str (x : Str) : Tr H (.str x) (.str x)
  | tup {a : Addr} {xs : List V} {ds : List PyData} : H a = some (.tup xs) → TrAll H xs ds → Tr H (.ref a) (.tuple ds)
inductive TrAll (H : Hp) : List V → List PyData → Prop
  | nil : TrAll H [] []
  | cons {v : V} {vs : List V} {d : PyData} {ds : List PyData} : Tr H v d → TrAll H vs ds → TrAll H (v :: vs) (d :: ds)
end
mutual
theorem Tr.keep {H H' : Hp} (k : Tk H H') : ∀ {v : V} {d : PyData}, Tr H v d → Tr H' v d
  | _, _, .non => .non
  | _, _, .bl b => .bl b
  | _, _, .int i => .int i
  | _, _, .str x => .str x
  | _, _, .tup h r => .tup (k _ _ h) (TrAll.keep k r)
theorem TrAll.keep {H H' : Hp} (k : Tk H H') : ∀ {v : List V} {d : List PyData}, TrAll H v d → TrAll H' v d
  | _, _, .nil => .nil
  | _, _, .cons h r => .cons (Tr.keep k h) (TrAll.keep k r)
end
mutual
theorem Tr.dp {K : PySem.W.Frag} {H : Hp} : ∀ {v : V} {d : PyData}, Tr H v d → Dp K H v d
  | _, _, .non => .non
  | _, _, .bl b => .bl b
  | _, _, .int i => .int i
  | _, _, .str x => .str x
  | _, _, .tup h r => .tup (SqT.of h) (TrAll.dp r)
theorem TrAll.dp {K : PySem.W.Frag} {H : Hp} : ∀ {v : List V} {d : List PyData}, TrAll H v d → DpAll K H v d
  | _, _, .nil => .nil
  | _, _, .cons h r => .cons (Tr.dp h) (TrAll.dp r)
end
theorem TrAll.len {H : Hp} : ∀ {v : List V} {d : List PyData}, TrAll H v d → v.length = d.length
  | _, _, .nil => rfl
  | _, _, .cons _ r => congrArg (· + 1) (TrAll.len r)
theorem TrAll.app {H : Hp} : ∀ {v u : List V} {d f : List PyData}, TrAll H v d → TrAll H u f → TrAll H (v ++ u) (d ++ f)
  | _, _, _, _, .nil, q => q
  | _, _, _, _, .cons h r, q => .cons h (TrAll.app r q)
theorem TrAll.one {H : Hp} {v : V} {d : PyData} (h : Tr H v d) : TrAll H [v] [d] := .cons h .nil
theorem TrAll.strs {H : Hp} : ∀ l : List Str, TrAll H (l.map V.str) (l.map PyData.str)
  | [] => .nil
  | x :: r => .cons (.str x) (TrAll.strs r)
theorem TrAll.get {H : Hp} : ∀ {v : List V} {d : List PyData} {i : Nat} {x : V}, TrAll H v d → v[i]? = some x → ∃ y, d[i]? = some y ∧ Tr H x y
  | _, _, _, _, .nil, h => by simp at h
  | _, _, 0, x, .cons h r, q => ⟨_, rfl, by
    have e := Option.some.inj q
    rw [← e]
    exact h⟩
  | _, _, i + 1, x, .cons h r, q => by
    rw [List.getElem?_cons_succ] at q ⊢
    exact TrAll.get r q
end Vf

set_option Elab.async false
set_option linter.all false
set_option maxRecDepth 100000
set_option maxHeartbeats 4000000
/-! Own words: dicts that the top has written, asked by ints and texts; a list extended by a tuple. -/
namespace Vf
open PySem PySem.Spec PyProof.Rows L2

/-- the entries of a written dict, by keys and values -/
def KdL (w : World) : List (Key × V) → List DictEntry → Prop
  | [], [] => True
  | (k, v) :: r, e :: q => keyIs k e.key = true ∧ e.hash = keyH w k ∧ RelV v e.val ∧ KdL w r q
  | _, _ => False
theorem KdL.keys {P : Program} {w : World} : ∀ {kvs : List (Key × V)} {l : List DictEntry}, KdL w kvs l → ∀ e ∈ l, ∃ k, (mixKind P w).is k e.key = true ∧ e.hash = (mixKind P w).hash k
  | [], [], _, e, he => by cases he
  | (k, v) :: r, e :: q, h, e', he => by
    rcases List.mem_cons.mp he with rfl | he
    · exact ⟨k, h.1, h.2.1⟩
    · exact KdL.keys h.2.2.2 e' he
  | [], _ :: _, h, _, _ => h.elim
  | _ :: _, [], h, _, _ => h.elim
theorem KdL.val {w : World} : ∀ {kvs : List (Key × V)} {l : List DictEntry}, KdL w kvs l → ∀ k, RelO (valV kvs k) ((l.find? fun e => keyIs k e.key).map (·.val))
  | [], [], _, k => True.intro
  | (k', v) :: r, e :: q, h, k => by
    have ih := KdL.val h.2.2.2 k
    unfold valV at ih ⊢
    rw [List.find?_cons, List.find?_cons]
    by_cases hk : k' = k
    · subst hk
      rw [h.1, decide_eq_true rfl]
      exact h.2.2.1
    · have h1 : keyIs k e.key = false := by
        cases hb : keyIs k e.key with
        | false => rfl
        | true =>
          have a1 := h.1
          rcases keyIs_shape a1 with ⟨i, t, e1, e2⟩ | ⟨x, t, e1, e2⟩
          · rcases keyIs_shape hb with ⟨j, u, e3, e4⟩ | ⟨y, u, e3, e4⟩
            · rw [e2] at e4
              cases e4
              exact absurd (e1.trans e3.symm) hk
            · rw [e2] at e4
              cases e4
          · rcases keyIs_shape hb with ⟨j, u, e3, e4⟩ | ⟨y, u, e3, e4⟩
            · rw [e2] at e4
              cases e4
            · rw [e2] at e4
              cases e4
              exact absurd (e1.trans e3.symm) hk
      rw [h1, decide_eq_false hk]
      exact ih
  | [], _ :: _, h, _ => h.elim
  | _ :: _, [], h, _ => h.elim
/-- a dict of the module stands at d -/
def KD (K : PySem.W.Frag) (w : World) (d : Addr) (kvs : List (Key × V)) : Prop :=
  ∃ es n, K.lookup d = some ⟨.type "dict", none, .dict es n, #[]⟩ ∧ (d == sysModules) = false ∧ KdL w kvs es.toList
theorem KD.map {P : Program} {w : World} {K : PySem.W.Frag} {d : Addr} {kvs : List (Key × V)} {h : Heap} (D : KD K w d kvs) (X : K.In h) :
    ∃ f, h.MapOf (mixKind P w) d f ∧ ∀ k, RelO (valV kvs k) (f k) := by
  obtain ⟨es, n, hl, _, hk⟩ := D
  refine ⟨_, ⟨_, es, n, X _ _ hl, ⟨rfl, rfl, rfl⟩, rfl, fun e he => hk.keys e (Array.mem_toList_iff.mpr he), fun _ => rfl⟩, fun k => ?_⟩
  have q := hk.val k
  obtain ⟨l⟩ := es
  unfold findBy
  rw [List.find?_toArray]
  exact q
/-- d[k], there -/
def rKGet (K : PySem.W.Frag) (w : World) : R2 := fun x y H Q => ∃ d kvs k v, x = .ref d ∧ y = kV k ∧ KD K w d kvs ∧ valV kvs k = some v ∧ Q v H
/-- d.get(k, z) -/
def tKGet2 (K : PySem.W.Frag) (w : World) (td ty tx : TE) : TE := fun σ H Q => td σ H fun x H1 => ty σ H1 fun y H2 => tx σ H2 fun z H3 =>
  ∃ d kvs k, x = .ref d ∧ y = kV k ∧ KD K w d kvs ∧ Q ((valV kvs k).getD z) H3
section
variable {X : Cx} {o e f : Expr} {apos cpos : Pos} {td ty tx : TE}
theorem ix_kd : IxR X (rKGet X.K X.w) := by
  intro value slice pins s σ H x y v u Q I rx ry h hs
  obtain ⟨d, kvs, k, z, rfl, rfl, D, hv, q⟩ := h
  cases rx
  obtain ⟨g, hm, hg⟩ := D.map (P := X.prog) I.kIn
  have q2 := hg k
  rw [hv] at q2
  obtain ⟨z', e1, r1⟩ := q2.some_of
  exact tail_any hm.typeIs PySem.F.slot_dict_getitem.lookup (wpAny_getItem_of (kV_is ry) hm e1 ⟨z, H, I.tok _, r1, q⟩) hs
theorem pe_kget2 (ho : PE X o td) (he : PE X e ty) (hf : PE X f tx) (hD : ∀ σ H Q, td σ H Q → td σ H (fun x H1 => (∃ d kvs, x = .ref d ∧ KD X.K X.w d kvs) ∧ Q x H1)) (m : M2 X o "get" apos e f cpos) :
    PE X (.Call (.Attribute o "get" apos) [e, f] [] cpos) (tKGet2 X.K X.w td ty tx) := by
  refine ⟨fun pins s σ H Q I h => ?_⟩
  have h' := hD _ _ _ h
  refine wpAny_Call_method m.base m.few m.line PySem.F.plainAttrs_dict PySem.F.slot_dict_get PySem.F.type_dict_get (thn (ho.run pins s σ H _ I h') ?_)
  rintro u s1 ⟨x, H1, I1, rx, ⟨d, kvs0, rfl, D⟩, q1⟩
  cases rx
  obtain ⟨g, hm, hg⟩ := D.map (P := X.prog) I1.kIn
  obtain ⟨es, n, hl, low, _⟩ := D
  refine ⟨hm.typeIs, fun b z => ?_, ?_⟩
  · cases z
    exact ⟨_, I1.kIn _ _ hl, rfl⟩
  rw [m.trees]
  refine Calls.callWith_builtin rfl (Calls.evalArgs_plain (Calls.spliced_cons (thn (he.run pins s1 σ H1 _ I1 q1) ?_)))
  rintro iv s2 ⟨y, H2, I2, ry, q2⟩
  refine Calls.spliced_cons (thn (hf.run pins s2 σ H2 _ I2 q2) ?_)
  rintro fv s3 ⟨z, H3, I3, rz, d', kvs, k, ed, ey, D3, q3⟩
  cases ed
  subst ey
  refine Calls.spliced_nil ?_
  obtain ⟨g3, hm3, hg3⟩ := D3.map (P := X.prog) I3.kIn
  refine call_meetsIn PySem.F.slot_dict_get hm3.typeIs PySem.F.entry_dict_get (PySem.F.args_dict_get_3 _ _ _) (meets_dict_get_default (mixKind X.prog X.w) d (kV_is ry) low fv) ⟨_, hm3, ?_⟩
  exact ⟨_, H3, I3.tok _, (hg3 k).getD rz, q3⟩

/-- xs.extend(t), t a tuple -/
def rExtendT (K : PySem.W.Frag) : V → List V → Hp → VK → Prop := fun x vs H Q => ∃ l b xs zs, x = .ref l ∧ vs = [.ref b] ∧ H l = some (.lst xs) ∧ SqT K H b zs ∧ xs.length + zs.length ≤ sizeLine ∧ Q .non (upd H l (.lst (xs ++ zs)))
theorem extend_tuple (l b : Addr) (its its2 : Array Value) (n n2 : Nat) (dd : Option Addr) (sl : Array (Option Value))
    (h0 : ¬(!its.isEmpty && Builtin.List.listTooLong (its.size + its2.size)) = true)
    (h1 : its.size ≤ sizeLine) (h2 : its.size + its2.size ≤ sizeLine + 1) :
    Meets (Builtin.«list.extend» ⟨[.ref l, .ref b], []⟩) (fun _ R s =>
      s.heap.get? l = some { cls := .type "list", dict := none, data := .seq its n, slots := #[] } ∧
      s.heap.get? b = some { cls := .type "tuple", dict := dd, data := .seq its2 n2, slots := sl } ∧
      R (.ok (.ret Value.none)) { s with heap := s.heap.update l (Obj.mapSeq fun x => x ++ its2), toks := s.toks }) :=
  .of_wp fun prog w A R s h => by
    obtain ⟨hp, g, d, tk, os⟩ := s
    obtain ⟨hl, hb, h⟩ := h
    have f1 := AutoSeq1.idx_int
    have f2 := AutoSeq1.sub_tuple_tuple
    have f3 := AutoSeq1.sub_list_list
    have f4 := AutoSeq1.sub_tuple_list
    have f5 := AutoSeq1.sub_list_tuple
    have hz' : (its ++ its2).size ≤ sizeLine + 1 := by
      rw [Array.size_append]
      exact h2
    wp_walk using (wpAny_updateSeq hl rfl (hz := h1) (_hz' := hz')), AutoSeq1.wpAny_loadPart' hl, AutoSeq1.wpAny_loadPart' hb
    exact ⟨_, rfl, h⟩
theorem mt_extendT : MtM X "list.extend" (rExtendT X.K) := by
  intro pins s σ H x vs v us Q I rx rv h
  obtain ⟨l, b, xs, zs, rfl, rfl, hH, hB, hz, q⟩ := h
  cases rx
  obtain ⟨u, rfl, ru⟩ := rv.one
  cases ru
  obtain ⟨z, its, n, r, hl, e⟩ := I.lstM hH
  obtain ⟨its2, r2, ⟨⟨cls, dd, dat, sl⟩, ho, hc, n2, hd⟩, hz2⟩ := I.tuple hB
  simp only at hc hd
  subst hc hd
  have hl2 := r2.length
  have hsz : its.toArray.size + its2.toArray.size ≤ sizeLine := by
    rw [List.size_toArray, List.size_toArray]
    omega
  have hlong : ¬ (!its.toArray.isEmpty && Builtin.List.listTooLong (its.toArray.size + its2.toArray.size)) = true := by
    rw [notLongL hsz, Bool.and_false]
    exact Bool.false_ne_true
  refine call_meets PySem.F.slot_list_extend ⟨_, e, rfl⟩ PySem.F.entry_list_extend (PySem.F.args_list_extend_2 _ _)
    (extend_tuple l b its.toArray its2.toArray n n2 dd sl hlong (by rw [List.size_toArray]; omega) (by omega)) ⟨e, ho, ?_⟩
  refine ⟨.non, _, I.lset (its' := its ++ its2) hH e (by simp) (r.append r2) ?_, rfl, q⟩
  rw [List.length_append]
  omega
end
end Vf

set_option Elab.async false
set_option linter.all false
set_option maxRecDepth 100000
set_option maxHeartbeats 4000000
/-! Own words: data that are shown alike. -/
namespace Vf
open PySem PySem.Spec PyProof.Rows L2
mutual
/-- data without dicts, whose ints and texts may be shown -/
def tame : PyData → Bool
  | .none => true
  | .bool _ => true
  | .int i => decide (i.natAbs < 10 ^ 30)
  | .str x => x.cps.all (· < 0x110000)
  | .list xs => tameAll xs
  | .tuple xs => tameAll xs
  | .dict _ => false
def tameAll : List PyData → Bool
  | [] => true
  | x :: r => tame x && tameAll r
end
mutual
/-- no less than the length of what is shown -/
def wt : PyData → Nat
  | .none => 4
  | .bool _ => 5
  | .int _ => 32
  | .str x => 10 * x.length + 2
  | .list xs => wtAll xs + 4
  | .tuple xs => wtAll xs + 4
  | .dict _ => 0
def wtAll : List PyData → Nat
  | [] => 0
  | x :: r => wt x + 2 + wtAll r
end
theorem listText_le (ts : List Str) : (listText ts).length ≤ piled ts + 2 := by
  have e1 : (("[" : Str)).length = 1 := rfl
  have e2 : (("]" : Str)).length = 1 := rfl
  unfold listText
  rw [Str.length_append]
  have e2' : (("]" : String) : Str).length = 1 := rfl
  cases ts with
  | nil =>
    show (("[" : Str)).length + _ ≤ _
    rw [e1, piled_nil]
    exact Nat.le_refl _
  | cons t r =>
    show (textFrom (0 + 1) (("[" : Str) ++ _ ++ t) r).length + _ ≤ _
    rw [textFrom_length_pos r 1 _ (by decide), piled_cons, Str.length_append, Str.length_append, e1]
    have e3 : (Str.ofString (if 0 > 0 then ", " else "" : String)).length = 0 := rfl
    rw [e3, e2']
    omega
theorem tupleText_le (ts : List Str) : (tupleText ts).length ≤ piled ts + 3 := by
  unfold tupleText
  rw [Str.length_append, Str.length_append]
  have e1 : (("(" : Str)).length = 1 := rfl
  have e2 : (Str.ofString (if ts.length == 1 then ",)" else ")" : String)).length ≤ 2 := by
    split
    · exact Nat.le_refl _
    · exact Nat.le_succ 1
  have e3 : (Str.join ", " ts).length ≤ piled ts := by
    by_cases h : ts = []
    · subst h
      exact Nat.le_refl _
    · have := join_length_add ts h
      omega
  rw [e1]
  omega
theorem ofs_len (i : Int) (h : i.natAbs < 10 ^ 30) : (Str.ofString (toString i)).length ≤ 30 + 1 := by
  have e : (Str.ofString (toString i)).length = (toString i).length := PySem.ofString_length _
  rw [e]
  exact int_text_length_le10 (by decide) h
mutual
theorem shown_le : ∀ d : PyData, tame d = true → d.shown.length ≤ wt d
  | .none, _ => Nat.le_refl _
  | .bool b, _ => by
    cases b
    · exact Nat.le_refl _
    · exact Nat.le_succ 4
  | .int i, h => by
    have h' : i.natAbs < 10 ^ 30 := of_decide_eq_true h
    exact Nat.le_trans (ofs_len i h') (by show 30 + 1 ≤ 32; decide)
  | .str x, h => by
    refine Nat.le_trans (StrLaws.reprText_len x ?_) (Nat.le_refl _)
    intro c hc
    have h' : x.cps.all (· < 0x110000) = true := h
    rw [← Array.all_toList, List.all_eq_true] at h'
    have := of_decide_eq_true (h' c hc)
    omega
  | .list xs, h => by
    have := shownAll_le xs h
    have := listText_le (PyData.shownAll xs)
    show (listText (PyData.shownAll xs)).length ≤ wtAll xs + 4
    omega
  | .tuple xs, h => by
    have := shownAll_le xs h
    have := tupleText_le (PyData.shownAll xs)
    show (tupleText (PyData.shownAll xs)).length ≤ wtAll xs + 4
    omega
  | .dict _, h => by cases h
theorem shownAll_le : ∀ xs : List PyData, tameAll xs = true → piled (PyData.shownAll xs) ≤ wtAll xs
  | [], _ => Nat.le_refl _
  | x :: r, h => by
    have h' : (tame x && tameAll r) = true := h
    rw [Bool.and_eq_true] at h'
    have := shown_le x h'.1
    have := shownAll_le r h'.2
    show piled (x.shown :: PyData.shownAll r) ≤ wt x + 2 + wtAll r
    rw [piled_cons]
    omega
end
mutual
theorem tame_ok : ∀ d : PyData, tame d = true → d.showable = true ∧ d.hasDict = false ∧ d.canLay0 = true
  | .none, _ => ⟨rfl, rfl, rfl⟩
  | .bool b, _ => ⟨rfl, rfl, rfl⟩
  | .int i, h => by
    have h' : i.natAbs < 10 ^ 30 := of_decide_eq_true h
    refine ⟨?_, rfl, rfl⟩
    show decide (i.natAbs.log2 < 1920) = true
    refine decide_eq_true ?_
    by_cases h0 : i.natAbs = 0
    · rw [h0]
      decide
    · exact (Nat.log2_lt h0).mpr (Nat.lt_trans h' (by decide +kernel))
  | .str x, h => ⟨rfl, rfl, h⟩
  | .list xs, h => tameAll_ok xs h
  | .tuple xs, h => tameAll_ok xs h
  | .dict _, h => by cases h
theorem tameAll_ok : ∀ xs : List PyData, tameAll xs = true → PyData.showableAll xs = true ∧ PyData.hasDictAll xs = false ∧ PyData.canLayAll0 xs = true
  | [], _ => ⟨rfl, rfl, rfl⟩
  | x :: r, h => by
    have h' : (tame x && tameAll r) = true := h
    rw [Bool.and_eq_true] at h'
    obtain ⟨a1, a2, a3⟩ := tame_ok x h'.1
    obtain ⟨b1, b2, b3⟩ := tameAll_ok r h'.2
    refine ⟨?_, ?_, ?_⟩
    · show (PyData.showable x && PyData.showableAll r) = true
      rw [a1, b1] <;> rfl
    · show (PyData.hasDict x || PyData.hasDictAll r) = false
      rw [a2, b2] <;> rfl
    · show (PyData.canLay0 x && PyData.canLayAll0 r) = true
      rw [a3, b3] <;> rfl
end
/-- data of a size that may be shown -/
structure OkD (d : PyData) : Prop where
  tm : tame d = true
  dp : d.depth ≤ 60
  sz : wt d ≤ 16000000
theorem OkD.shaped {d : PyData} (h : OkD d) : SeqAt.shaped d = true := by
  unfold SeqAt.shaped
  rw [Bool.and_eq_true]
  exact ⟨(tame_ok d h.tm).2.2, decide_eq_true (Nat.le_trans h.dp (by decide))⟩
theorem OkD.show {d : PyData} (h : OkD d) : d.shown.length ≤ sizeLine := Nat.le_trans (shown_le d h.tm) (Nat.le_trans h.sz (by decide))
theorem OkD.refl {d : PyData} (h : OkD d) : PyData.eqv d d = true := SeqAt.eqv_refl d (tame_ok d h.tm).2.2
/-- repr of a list or a tuple, of a truth, of an int -/
theorem call_repr {X : Cx} (gd : X.A.guards = some []) (hu : X.A.units + 64 < cLine) :
    CallR X (.builtin "repr") (fun xs H Q => ∃ a d, xs = [.ref a] ∧ Dp X.K H (.ref a) d ∧ OkD d ∧ Q (.str d.shown) H) := by
  intro pins s σ H xs us Q I r h
  obtain ⟨a, d, rfl, hd, ok, q⟩ := h
  obtain ⟨h1, h2, h3⟩ := tame_ok d ok.tm
  exact call_reprD gd hu pins s σ H [.ref a] us Q I r ⟨a, d, rfl, hd, h1, h2, ok.dp, ok.show, q⟩
def rListOf (K : PySem.W.Frag) : List V → Hp → VK → Prop := fun xs H Q => ∃ p ys, xs = [.ref p] ∧ (SqL K H p ys ∨ SqT K H p ys) ∧ ∀ l, H l = none → Q (.ref l) (upd H l (.lst ys))
def rLenK (K : PySem.W.Frag) : List V → Hp → VK → Prop := fun xs H Q => ∃ x n, xs = [x] ∧ LenV K x H n ∧ Q (.int n) H
def rTupOf (K : PySem.W.Frag) : List V → Hp → VK → Prop := fun xs H Q => ∃ p ys, xs = [.ref p] ∧ ((SqL K H p ys ∧ ∀ l, H l = none → Q (.ref l) (upd H l (.tup ys))) ∨ (SqT K H p ys ∧ Q (.ref p) H))
/-- two things alike -/
def spAlike (K : PySem.W.Frag) : Sp := fun vs H Q _ => ∃ (a b : Addr) (d : PyData), vs = [.ref a, .ref b] ∧ Dp K H (.ref a) d ∧ Dp K H (.ref b) d ∧ OkD d ∧ ∀ H', Same H H' → Q (.bl true) H'
theorem same_new {H : Hp} {p : Addr} {o : HO} (h : H p = none) : Same H (upd H p o) := fun b u e => by
  rw [upd_ne (ne_of_none e h)]
  exact e
theorem Tr.new {H : Hp} {v : V} {d : PyData} {p : Addr} {o : HO} (t : Tr H v d) (h : H p = none) : Tr (upd H p o) v d := t.keep ((Tk.refl H).new h)
theorem TrAll.new {H : Hp} {v : List V} {d : List PyData} {p : Addr} {o : HO} (t : TrAll H v d) (h : H p = none) : TrAll (upd H p o) v d := t.keep ((Tk.refl H).new h)
theorem same_put {H H' : Hp} {p : Addr} {o : HO} (s : Same H H') (h : H p = none) : Same H (upd H' p o) := fun b u e => by
  rw [upd_ne (ne_of_none e h)]
  exact s b u e
end Vf

set_option Elab.async false
set_option linter.all false
set_option maxRecDepth 100000
set_option maxHeartbeats 4000000
/-! Own words: a lambda of one parameter, handed to a def; a local that holds such a one, or a def. -/
namespace Vf
open PySem PySem.Spec PyProof.Rows L2
open LamX (CodeO TabS Tabs ExtN TabB)
/-- the lambda that stands at f, its code at c -/
def LamO (f c : Addr) (q : Str) (ar : Arguments) (bd : Expr) (sc : Scope) : HO :=
  .ext fun h => ∃ pm ct : Value, h.get? f = some (PySem.W.kla_obj "<lambda>" q ar bd sc [] pm c ct)
/-- what a call takes at f -/
def Callee (K : PySem.W.Frag) (H : Hp) (f : Addr) : Prop :=
  (∃ oc od fd sl, K.lookup f = some ⟨oc, od, .func fd, sl⟩) ∨ ∃ c q ar bd sc, H f = some (LamO f c q ar bd sc)
/-- f, called with one thing, keeps the promise -/
def One (P : Program) (w : World) (K : PySem.W.Frag) (mg : Str → Option Value) (base : Heap) (k : Nat) (f : Addr) (sp : Sp) : Prop :=
  ∀ (A : Around) (outer : List Env) (s : Shared) (H : Hp) (u : Value) (v : V) (Q : VK) (E : XK),
    Room k A → Env0 P w K mg base A outer s H → RelV v u → sp [v] H Q E →
    codeAny (model P w) A (.call (.ref f) ⟨[u], []⟩) (CR CX0 outer P w H s Q E) s
section
variable {P : Program} {w : World} {K : PySem.W.Frag} {mg : Str → Option Value} {base : Heap}
/-- a def of the text -/
theorem one_def {k : Nat} {x : Str} {sp : Sp} (C : C8.Cal P w K mg base k x sp []) : ∃ f, mg x = some (.ref f) ∧ (∃ fd ps, FnOk P w K mg base CX0 k f fd ps sp) ∧ One P w K mg base k f sp := by
  obtain ⟨f, fd, ps, ds, F, hm, kp, b, d⟩ := C
  cases d
  refine ⟨f, hm, ⟨fd, ps, F⟩, fun A o s H u v Q E hr e0 rv h => ?_⟩
  have KX : K.In s.heap := e0.mod.kin.keeps fun b o e => (e0.bs b o e).1
  have hl : ([u] : List Value).length = ps.length := F.len _ _ _ _ h
  exact F.run A o s H ⟨[u], []⟩ [u] [v] Q E hr e0 (b s [u] KX hl) (.cons rv .nil) h
/-- a lambda, by its body -/
theorem one_lam {k : Nat} {q p : Str} {ar : Arguments} {bd : Expr} {sc : Scope} {N : List Str} {sp : Sp} (f c : Addr)
    (S : FnScope N [p] sc) (nc : ∀ y ∈ sc.names, y.2 ≠ .cell)
    (bind : ∀ (pm ct u : Value), bindArgs (PySem.W.kla_fn "<lambda>" q ar bd sc [] pm (.ref c) ct) ⟨[u], []⟩ = pure [(p, u)])
    (body : ∀ (A : Around) (outer : List Env) (s : Shared) (H : Hp) (v : V) (Q : VK) (E : XK),
      Room k (A.deeper (envOfC q sc s.heap.objs.size f (.ref c))) → sp [v] H Q E →
      ∃ te : TE, PE (cxOf CX0 P w K mg base N q sc f (.ref c) A outer s H E).nox bd te ∧ te (start N [v]) H Q) :
    One P w K mg base (k + 1) f fun vs H Q E => H f = some (LamO f c q ar bd sc) ∧ H c = some (CodeO c q) ∧ sp vs H Q E := by
  intro A outer s H u v Q E hr e0 rv h
  obtain ⟨hf, hc, hs⟩ := h
  obtain ⟨⟨pm, ct, of⟩, _, _⟩ := e0.hok f _ hf
  obtain ⟨⟨oc, vs, t, e1, e2, e3⟩, _, _⟩ := e0.hok c _ hc
  have lim : s.heap.NoLimit := e0.mod.nolimit.keeps fun b o e => (e0.bs b o e).1
  refine PySem.W.kla_callFunE hr.depth of rfl S.co S.gen rfl ⟨c, oc, vs, t, rfl, e1, e2, e3⟩ ?_
  rw [bind]
  refine wpAny_pure ?_
  refine wpAny_newFunctionEnv_cells S.kind (fun y hy => ?_) fun env he s1 x => ?_
  · obtain rfl : y = (p, u) := by simpa using hy
    exact (S.par p (by simp)).elim .inl fun z => absurd rfl (nc _ (PySem.mem_of_lookup z))
  subst he
  refine ⟨lim.keeps x.toInCall.keep, ?_⟩
  obtain ⟨te, ht, hq⟩ := body A outer s H v Q E (hr.deeper _) hs
  have I := inv_start (CX := CX0) (E := E) (us := [u]) (vs := [v]) S hr.hd e0 rfl (.cons rv .nil) x
  refine PySem.W.kla_codeExpr (wpAny_mono (ht.nox.run [] s1 (start N [v]) H Q I hq) (fun u' s' hs => ?_) fun _ _ hs => hs)
  obtain ⟨v', H', J, rv', q'⟩ := hs
  exact ⟨v', H', J.os, J.bare, J.base, J.hok, rv', q'⟩
end

/-! ### a lambda is made -/
/-- what the making of a lambda gives on -/
def tLamV (T : List (Addr × Str)) (q : Str) (ar : Arguments) (bd : Expr) (sc : Scope) : TE := fun _ H Q =>
  Tabs T H ∧ ∀ (f c : Addr) (H1 : Hp), ExtN H H1 → Tabs T H1 → H1 f = some (LamO f c q ar bd sc) → H1 c = some (CodeO c q) → H f = none → H c = none ∨ H c = some (CodeO c q) → Q (.ref f) H1
section
variable {X : Cx} {pins : List (Addr × Obj)} {σ : L2.St} {H : Hp} {s : Shared}
/-- a lambda's object, laid behind all others -/
theorem inv_lam {c : Addr} {q : Str} {ar : Arguments} {bd : Expr} {sc : Scope} {pm ct : Value} {h' : Heap} {tk : Nat} (I : Inv X pins σ H { s with heap := h', toks := tk }) :
    Inv X pins σ (upd H h'.objs.size (LamO h'.objs.size c q ar bd sc)) { s with heap := h'.push (PySem.W.kla_obj "<lambda>" q ar bd sc [] pm c ct), toks := tk } := by
  refine I.laid (fun b u e => Heap.get?_push_of_some _ e) (Nat.le_refl _) ?_
  refine ⟨⟨pm, ct, Heap.get?_push_size _ rfl⟩, ⟨_, Heap.get?_push_size _ rfl⟩, ?_⟩
  rintro h1 h2 ⟨pm', ct', e⟩ st
  exact ⟨pm', ct', st _ e⟩
theorem lam_ne_tbl {f c : Addr} {q : Str} {ar : Arguments} {bd : Expr} {sc : Scope} (ps : Array Value) : LamO f c q ar bd sc ≠ .tbl ps := fun z => by
  unfold LamO at z
  cases z
theorem tabs_new {T : List (Addr × Str)} {f : Addr} {o : HO} (t : Tabs T H) (n : H f = none) : Tabs T (upd H f o) :=
  t.ext fun b u e => by
    rw [upd_ne (ne_of_none e n)]
    exact e
theorem pe_lam {T : List (Addr × Str)} {c P : Addr} {ar : Arguments} {bd : Expr} {sc : Scope} {pos : Pos} (TB : TabB X.base X.mg c P) (hcode : X.env.code = .ref c)
    (hm : (P, X.env.qual ++ "<lambda>") ∈ T) (hu : ∀ p ∈ T, p.1 = P → p.2 = X.env.qual ++ "<lambda>") (hdef : defaultsOf ar X.env = ([], []))
    (hfree : ∀ y ∈ sc.names, y.2 ≠ .free) (hclo : cloFrom X.env.cells sc.names [] = []) :
    PE X (.Lambda ar bd sc pos) (tLamV T (X.env.qual ++ "<lambda>") ar bd sc) := by
  refine ⟨fun pins s σ H Q I h => ?_⟩
  obtain ⟨hT, go⟩ := h
  obtain ⟨ps, atP, tri, known⟩ := hT _ hm
  have oP : s.heap.get? P = some { cls := .none, data := .fields ps } := I.hok P _ atP
  have bP : s.heap.BuiltinsAt X.mg P := TB.bm.keeps I.bk
  have cl := closure_ok (scope := sc) (env := X.env) fun y hy e => absurd e (hfree y hy)
  rw [hclo] at cl
  refine PySem.W.kla_eval hdef ?_
  cases found : codeAmong pos ps.toList with
  | some cv =>
    obtain ⟨c1, rfl, known1⟩ := known pos cv found
    refine PySem.W.kla_makeFunctionHit (mg := X.mg) (c := c) (P := P) (ps := ps) cl I.ok.glob (I.mod.glob.keeps I.bk) hcode (TB.code.keeps I.bk) oP tri found bP ?_
    intro ct h' tk keep size
    have I1 : Inv X pins σ H { s with heap := h', toks := tk } := I.kept keep
    have nf : H h'.objs.size = none := I.hok.fresh size
    refine ⟨.ref h'.objs.size, _, inv_lam I1, rfl, go _ c1 _ (fun b o e _ => ?_) (tabs_new hT nf) upd_same ?_ nf (.inr known1)⟩
    · rw [upd_ne (ne_of_none e nf)]
      exact e
    · rw [upd_ne (ne_of_none known1 nf)]
      exact known1
  | none =>
    refine PySem.W.kla_makeFunction (mg := X.mg) (c := c) (P := P) (ps := ps) cl I.ok.glob (I.mod.glob.keeps I.bk) hcode (TB.code.keeps I.bk) oP tri found TB.gP bP ?_
    intro c1 ct h' tk but ge lt code tab
    obtain ⟨c2, oc, vs, t, ec, e1, e2, e3⟩ := code
    cases ec
    have nc : H c1 = none := I.hok.fresh ge
    have I1 := LamX.inv_table (t' := tk) (more := #[rawInt pos.line, rawInt pos.col, .ref c1]) I atP (fun b o nb e => but b o nb e) tab ge ⟨oc, vs, t, e1, e2, e3⟩
    have size : s.heap.objs.size ≤ h'.objs.size := Nat.le_trans ge (Nat.le_of_lt lt)
    have nP : P ≠ c1 := ne_of_none atP nc
    have nf : upd (upd H P (.tbl (ps ++ #[rawInt pos.line, rawInt pos.col, .ref c1]))) c1 (CodeO c1 (X.env.qual ++ "<lambda>")) h'.objs.size = none := I1.hok.fresh (Nat.le_refl _)
    have ext : ExtN H (upd (upd H P (.tbl (ps ++ #[rawInt pos.line, rawInt pos.col, .ref c1]))) c1 (CodeO c1 (X.env.qual ++ "<lambda>"))) := by
      intro b o e notTab
      have nbP : b ≠ P := fun z => by
        rw [z, atP] at e
        exact notTab ps (Option.some.inj e).symm
      rw [upd_ne (ne_of_none e nc), upd_ne nbP]
      exact e
    have tabs : Tabs T (upd (upd H P (.tbl (ps ++ #[rawInt pos.line, rawInt pos.col, .ref c1]))) c1 (CodeO c1 (X.env.qual ++ "<lambda>"))) := by
      rintro ⟨P', q'⟩ mem
      by_cases same : P' = P
      · subst same
        obtain rfl : q' = X.env.qual ++ "<lambda>" := hu _ mem rfl
        have list : (ps ++ #[rawInt pos.line, rawInt pos.col, .ref c1]).toList = ps.toList ++ [rawInt pos.line, rawInt pos.col, .ref c1] := by simp
        refine ⟨_, (by rw [upd_ne nP, upd_same]), ?_, fun p1 cv at1 => ?_⟩
        · rw [list]
          exact PySem.TriplesOk_snoc _ _ _ _ tri
        · rw [list] at at1
          rcases LamX.among_app _ tri at1 with z | z
          · obtain ⟨c2, y1, y2⟩ := known p1 cv z
            exact ⟨c2, y1, ext _ _ y2 LamX.codeO_ne⟩
          · exact ⟨c1, z, upd_same⟩
      · obtain ⟨ps2, a1, a2, a3⟩ := hT _ mem
        refine ⟨ps2, ?_, a2, fun p1 cv at1 => ?_⟩
        · show upd (upd H P _) c1 _ P' = _
          rw [upd_ne (ne_of_none a1 nc), upd_ne same]
          exact a1
        · obtain ⟨c2, y1, y2⟩ := a3 p1 cv at1
          exact ⟨c2, y1, ext _ _ y2 LamX.codeO_ne⟩
    refine ⟨.ref h'.objs.size, _, inv_lam I1, rfl, go _ c1 _ (fun b o e n => ?_) (tabs_new tabs nf) upd_same ?_ (I.hok.fresh size) (.inl nc)⟩
    · have e2 := ext b o e n
      rw [upd_ne (ne_of_none e2 nf)]
      exact e2
    · rw [upd_ne (Nat.ne_of_lt lt), upd_same]
/-- a call of a local that holds a def, or such a lambda -/
def tCallV (P : Program) (w : World) (K : PySem.W.Frag) (mg : Str → Option Value) (base : Heap) (k i : Nat) (t : TA) : TE := fun σ H Q =>
  ∃ f sp, σ[i]? = some (some (.ref f)) ∧ One P w K mg base k f sp ∧ Callee K H f ∧ t σ H fun vs H1 => Callee K H1 f ∧ (∃ v, vs = [v]) ∧ sp vs H1 Q E0
theorem Callee.at {f : Addr} (c : Callee X.K H f) (I : Inv X pins σ H s) : PySem.W.FnAt f s.heap := by
  rcases c with ⟨oc, od, fd, sl, e⟩ | ⟨c, q, ar, bd, sc, e⟩
  · exact ⟨oc, od, fd, sl, I.kIn _ _ e⟩
  · obtain ⟨⟨pm, ct, e⟩, _, _⟩ := I.hok f _ e
    exact ⟨_, _, _, _, e⟩
theorem pe_callV {k i : Nat} {x : Str} {p pos : Pos} {e : Expr} {es : List Expr} {t : TA} (hr : Room k X.A) (hN : X.N[i]? = some x) (hv : Vis X.env.scope x) (ha : PA X (e :: es) t)
    (hdb : (x == ("__debug__" : Str)) = false := by decide) (hcd : (x == ("__classdict__" : Str)) = false := by decide)
    (he : starEach (e :: es) X.env = (false, eval e X.env) :: starEach es X.env := by rfl) (hpl : (backTo pos (starEach es X.env)).any (·.1) = false := by rfl) :
    PE X (.Call (.Name x p) (e :: es) [] pos) (tCallV X.prog X.w X.K X.mg X.base k i t) := by
  refine ⟨fun pins s σ H Q I h => ?_⟩
  obtain ⟨f, sp, hs, F, cl, ht⟩ := h
  refine wpAny_Call_Name_kw (thn ((pe_var (pos := p) hN hv hdb hcd).run pins s σ H (fun v H1 => v = .ref f ∧ H1 = H) I ⟨.ref f, hs, rfl, rfl⟩) fun u s1 ⟨v, H1, I1, r1, q1⟩ => ?_)
  obtain ⟨rfl, rfl⟩ := q1
  cases r1
  refine PySem.W.callWith_F (cl.at I1) (thn (ha.run pos pins s1 σ _ _ I1 ht) fun us s2 ⟨vs, H2, I2, r, q⟩ => ?_) he hpl
  obtain ⟨cl2, ⟨v, rfl⟩, q⟩ := q
  refine ⟨cl2.at I2, ?_⟩
  cases r with
  | cons rv rn =>
    cases rn
    refine wpAny_call (codeAny_mono (F X.A X.stack s2 H2 _ _ Q E0 hr I2.env0 rv q) fun r s' hq => ?_)
    cases r with
    | error e => exact (hq : False).elim
    | ok fl =>
      cases fl with
      | ret u => exact I2.after hq
      | next => exact (hq : False).elim
      | brk => exact (hq : False).elim
      | cont => exact (hq : False).elim
end
end Vf

set_option Elab.async false
set_option linter.all false
set_option maxRecDepth 100000
set_option maxHeartbeats 4000000
/-! The end of a law one of whose defs makes lambdas: its code object at c, the table of what it made at P. -/
namespace Vf
open PySem PySem.Spec PyProof.Rows L2
open LamX (CodeO TabS Tabs ExtN TabB)
abbrev tab0 : Obj := { cls := .none, data := .fields #[] }
section
variable {P : Program} {w : World} {K : PySem.W.Frag}
  {mg mb : Str → Option Value} {k : Nat} {fa a : Addr} {fd : FuncData}
  {x : Str} {sp : Sp} {s₁ : Shared} {vs : List Value} {ns : List Int} {c T : Addr}

theorem law_goesT (KX : K.In s₁.heap)
    (hns : s₁.heap.Ns mainGlobals mg) (hb : s₁.heap.Ns builtinsNs mb)
    (hbb : ∀ y : Str, y ≠ "__name__" → mb y = bootBuiltins y)
    (hlim : s₁.heap.NoLimit) (hgen : s₁.gens = #[])
    (hT : s₁.heap.get? T = some tab0) (nT : K.lookup T = none) (C : PySem.W.CodeHd s₁.heap c T)
    (hbm : ∃ (bm : Addr) (ob : Obj), mg "__builtins__" = some (.ref bm) ∧ bm ≠ builtinsNs ∧ s₁.heap.get? bm = some ob ∧ ob.cls = .type "module" ∧ ob.dict = some builtinsNs ∧ ob.data = .plain)
    (ha : s₁.heap.get? a =
      some { cls := .type "list", data := .seq vs.toArray })
    (hr : Room k callerA)
    (F : ∀ base : Heap, K.In base → base.Ns mainGlobals mg → TabB base mg c T →
      FnG P w K mg base k fa fd [x] sp)
    (bind : ∀ (s : Shared) (u : Value),
      BindsTo s fd ⟨[u], []⟩ [(x, u)])
    (H : Hp) (hHT : H T = some (.tbl #[])) (hO : ∀ b, H b = none ∨ b = T ∨ ∃ o xs, H b = some (.frz o (.lst xs))) (ok : HOk P w H s₁.heap)
    (alone : ∀ b, H b ≠ none → b = a ∨ b = T)
    (notK : H a ≠ none → K.lookup a = none)
    (hs : sp [.ref a] H (fun v _ => v = .bl true) fun _ _ _ => False) :
    codeAny (model P w) callerA (.call (.ref fa) ⟨[.ref a], []⟩)
      (LawEnd s₁) s₁ := by
  have free : ∀ {b : Addr} {o : Obj}, s₁.heap.get? b = some o → (∀ xs n, o.data ≠ .seq xs n) → o.data ≠ .fields #[] → H b = none := by
    intro b o e d1 d2
    cases q : H b with
    | none => rfl
    | some u =>
      rcases alone b (by rw [q]; exact Option.some_ne_none u) with z | z
      · rw [z, ha] at e
        cases e
        exact absurd rfl (d1 _ _)
      · rw [z, hT] at e
        cases e
        exact absurd rfl d2
  have ns' : ∀ {b : Addr} {m : Str → Option Value},
      s₁.heap.Ns b m → (hidT s₁.heap H).Ns b m := by
    rintro b m ⟨o, es, ep, e, d, r⟩
    refine ⟨o, es, ep, hidT_get e (free e (fun xs n z => ?_) fun z => ?_), d, r⟩
    · rw [d] at z
      cases z
    · rw [d] at z
      cases z
  have kin : K.In (hidT s₁.heap H) := by
    intro b o e
    refine hidT_get (KX b o e) ?_
    cases q : H b with
    | none => rfl
    | some u =>
      rcases alone b (by rw [q]; exact Option.some_ne_none u) with z | z
      · have z2 := notK (by rw [← z, q]; exact Option.some_ne_none u)
        rw [z, z2] at e
        cases e
      · rw [z, nT] at e
        cases e
  have lim' : (hidT s₁.heap H).NoLimit := by
    obtain ⟨mc, h1, h2⟩ := hlim
    exact ⟨mc, ns' h1, h2⟩
  have M : Mod K mg (hidT s₁.heap H) :=
    ⟨kin, ns' hns, ⟨mb, ns' hb, hbb⟩, lim'⟩
  have notMain : mainGlobals ≠ T := fun z => by
    obtain ⟨o, es, ep, e, d, _⟩ := hns
    rw [z, hT] at e
    cases e
    cases d
  have TB : TabB (hidT s₁.heap H) mg c T := by
    refine ⟨?_, ?_, notMain⟩
    · obtain ⟨o, us, fl, tf, fg, tg, inF, tx, tt, e, r1, r2, r3, rest⟩ := C
      refine ⟨o, us, fl, tf, fg, tg, inF, tx, tt, hidT_get e (free e (fun xs n z => ?_) fun z => ?_), r1, r2, r3, rest⟩
      · rw [r2] at z
        cases z
      · rw [r2] at z
        cases z
        simp at r3
    · obtain ⟨bm, ob, m1, m2, m3, m4, m5, m6⟩ := hbm
      refine ⟨bm, ob, m1, m2, fun z => ?_, fun z => ?_, hidT_get m3 (free m3 (fun xs n z => ?_) fun z => ?_), m4, m5, m6⟩
      · obtain ⟨o, es, ep, e, d, _⟩ := hns
        rw [z, e] at m3
        cases m3
        rw [m6] at d
        cases d
      · rw [z, hT] at m3
        cases m3
        cases m6
      · rw [m6] at z
        cases z
      · rw [m6] at z
        cases z
  have none_in : ∀ b : Addr, b ∉ ([] : List Addr) := fun b => by simp
  have env : Env0 P w K mg (hidT s₁.heap H) callerA [] s₁ H :=
    ⟨rfl, M, fun b o e => of_hidT e, Nat.le_of_eq (hidT_size _ _),
      trivial, fun b z => absurd z (none_in b), ok, .of_eq hgen⟩
  refine codeAny_mono ((F _ kin (ns' hns) TB).go callerA [] s₁ H
    ⟨[.ref a], []⟩ [.ref a] [.ref a] _ _ hr rfl env
    (bind s₁ (.ref a)) (.cons rfl .nil) hs) ?_
  intro r s' h
  cases r with
  | error e => exact (h : False).elim
  | ok fl =>
    cases fl with
    | next => exact (h : False).elim
    | brk => exact (h : False).elim
    | cont => exact (h : False).elim
    | ret u =>
      obtain ⟨v, H', os, bare, un, ok', rv, q⟩ := h
      obtain rfl : v = .bl true := q
      obtain rfl : u = Value.bool true := rv
      have same : ∀ b o, b ≠ T → s₁.heap.get? b = some o → s'.heap.get? b = some o := by
        intro b o nb e
        cases q : H b with
        | none => exact un.keep b o e q (none_in b) (none_in b)
        | some u =>
          rcases hO b with z | z | ⟨ob, xs, z⟩
          · rw [q] at z
            cases z
          · exact absurd z nb
          · obtain ⟨e1, _⟩ := ok b _ z
            obtain ⟨e2, _⟩ := ok' b _ (un.frzs b ob _ z)
            rw [e] at e1
            cases e1
            exact e2
      obtain ⟨more, z⟩ := un.tbls T #[] hHT
      have grown : s'.heap.get? T = some { cls := .none, data := .fields (#[] ++ more) } := ok' T _ z
      refine ⟨rfl, ⟨fun b o e => ?_, fun b o e => ?_⟩, os, bare⟩
      · by_cases nb : b = T
        · subst nb
          rw [hT] at e
          cases e
          exact .inr (.inl ⟨(C.tab hT).isCodeTable, rfl, #[], more, rfl, grown⟩)
        · exact .inl (same b o nb e)
      · by_cases nb : b = T
        · subst nb
          exact ⟨_, grown⟩
        · exact ⟨o, same b o nb e⟩

theorem law_goesT2 (KX : K.In s₁.heap)
    (hns : s₁.heap.Ns mainGlobals mg) (hb : s₁.heap.Ns builtinsNs mb)
    (hbb : ∀ y : Str, y ≠ "__name__" → mb y = bootBuiltins y)
    (hlim : s₁.heap.NoLimit) (hgen : s₁.gens = #[])
    (hT : s₁.heap.get? T = some tab0) (nT : K.lookup T = none) (C : PySem.W.CodeHd s₁.heap c T)
    (hbm : ∃ (bm : Addr) (ob : Obj), mg "__builtins__" = some (.ref bm) ∧ bm ≠ builtinsNs ∧ s₁.heap.get? bm = some ob ∧ ob.cls = .type "module" ∧ ob.dict = some builtinsNs ∧ ob.data = .plain)
    (ha : s₁.heap.get? a =
      some { cls := .type "list", data := .seq vs.toArray })
    (hi : IntsAre vs ns) (hl : ns.length ≤ sizeLine)
    (hr : Room k callerA)
    (F : ∀ base : Heap, K.In base → base.Ns mainGlobals mg → TabB base mg c T →
      FnG P w K mg base k fa fd [x] sp)
    (bind : ∀ (s : Shared) (u : Value),
      BindsTo s fd ⟨[u], []⟩ [(x, u)])
    (hs : ∀ H : Hp, H T = some (.tbl #[]) → SqL K H a (ns.map V.int) →
      sp [.ref a] H (fun v _ => v = .bl true) fun _ _ _ => False) :
    codeAny (model P w) callerA (.call (.ref fa) ⟨[.ref a], []⟩)
      (LawEnd s₁) s₁ := by
  have rv := vals_ints hi
  have aT : a ≠ T := fun z => by
    rw [z, hT] at ha
    cases ha
  cases hk : K.lookup a with
  | some o =>
    have e := KX a o hk
    rw [ha] at e
    cases e
    refine law_goesT KX hns hb hbb hlim hgen hT nT C hbm ha hr F bind
      (fun b => if b = T then some (.tbl #[]) else none) (if_pos rfl) (fun b => ?_) (fun b u z => ?_)
      (fun b z => ?_) (fun z => absurd (if_neg aT) z) (hs _ (if_pos rfl) ?_)
    · by_cases q : b = T
      · exact .inr (.inl q)
      · exact .inl (if_neg q)
    · by_cases q : b = T
      · have z' := (if_pos q).symm.trans z
        cases z'
        subst q
        exact hT
      · have z' := (if_neg q).symm.trans z
        cases z'
    · by_cases q : b = T
      · exact .inr q
      · exact absurd (if_neg q) z
    refine .inr ⟨_, vs.toArray, _, hk, rfl, rfl, rfl, ?_, by simpa using rv⟩
    rw [List.size_toArray, hi.length]
    exact hl
  | none =>
    have e1 : ∀ {p q : Option HO}, (if T = a then p else if T = T then q else none) = q := fun {p q} => by
      rw [if_neg aT.symm, if_pos rfl]
    refine law_goesT KX hns hb hbb hlim hgen hT nT C hbm ha hr F bind
      (fun b => if b = a then some (.frz { cls := .type "list", data := .seq vs.toArray } (.lst (ns.map V.int))) else if b = T then some (.tbl #[]) else none) e1 (fun b => ?_)
      (fun b u z => ?_) (fun b z => ?_) (fun _ => hk)
      (hs _ e1 (.inl (.inr ⟨_, if_pos rfl⟩)))
    · by_cases q : b = a
      · exact .inr (.inr ⟨_, _, if_pos q⟩)
      · by_cases q2 : b = T
        · exact .inr (.inl q2)
        · exact .inl ((if_neg q).trans (if_neg q2))
    · by_cases q : b = a
      · have z' := (if_pos q).symm.trans z
        cases z'
        subst q
        exact ⟨ha, by rw [List.length_map]; exact hl, vs, _, rv, ha⟩
      · by_cases q2 : b = T
        · have z' := ((if_neg q).trans (if_pos q2)).symm.trans z
          cases z'
          subst q2
          exact hT
        · have z' := ((if_neg q).trans (if_neg q2)).symm.trans z
          cases z'
    · by_cases q : b = a
      · exact .inl q
      · by_cases q2 : b = T
        · exact .inr q2
        · exact absurd ((if_neg q).trans (if_neg q2)) z
end

/-- the goal that the head leaves -/
theorem walk_ofT {l : PySem.W.OpenLaw} {n k : Nat} {q : Program}
    {loose : List Str} {XP : (Str → Option Value) → Heap → Prop}
    {YP : World → Heap → Prop} {d : DefRec}
    {K : Params → PySem.W.Frag} {sp : World → Sp} {x : Str} {T : Addr}
    (hn : l.most = some n) (hn2 : n ≤ sizeLine)
    (hdf : d.params.defaults = []) (hr : Room k callerA)
    (hY : ∀ (w : World) (h : Heap), YP w h → (K w.params).In h ∧ h.get? T = some tab0)
    (F : ∀ (w : World) (mg : Str → Option Value) (fa : Addr) (h : Heap),
      (K w.params).In h → h.Ns mainGlobals mg →
      mg d.name = some (.ref fa) →
      ∃ (fd : FuncData) (c : Addr), PySem.W.codeHdIn (K w.params) c T = true ∧ (K w.params).lookup T = none ∧
        (∀ (s : Shared) (u : Value), BindsTo s fd ⟨[u], []⟩ [(x, u)]) ∧
        ∀ base : Heap, (K w.params).In base → base.Ns mainGlobals mg → TabB base mg c T →
          FnG l.prog w (K w.params) mg base k fa fd [x] (sp w))
    (hsp : ∀ (w : World) (H : Hp) (a : Addr) (ns : List Int),
      ns.length ≤ n → H T = some (.tbl #[]) → SqL (K w.params) H a (ns.map V.int) →
      sp w [.ref a] H (fun v _ => v = .bl true) fun _ _ _ => False) :
    PySem.W.WalkO q loose XP YP l.row.toRowW d []
      (fun f vs => PySem.call f vs) := by
  refine Att.attach_call hn hdf ?_
  intro w s₀ s₁ mg mb fa o pm cd doc a vs ns G Y ho hd hcd hmg hobj hints hlen hg
  obtain ⟨KX, hT⟩ := hY w _ Y
  obtain ⟨fd, c, hC, nT, hb, hF⟩ := F w mg fa _ KX G.T.g hmg
  exact law_goesT2 KX G.T.g G.T.b G.T.builtins G.T.nolimit hg hT nT (PySem.W.codeHd_of_K KX hC) G.T.bmain hobj
    hints (Nat.le_trans hlen hn2) hr hF hb
    (fun H hO hS => hsp w H a ns hlen hO hS)

/-- a def of the text whose code object is known -/
structure DefC (K : PySem.W.Frag) (mg : Str → Option Value) (x : Str) (st : Stmt) (ps : List Str) (cd : Value) : Prop where
  ex : ∃ (f : Addr) (oc : Value) (od an : Option Addr) (sl : Array (Option Value)) (kV dc pm ct : Value),
    K.lookup f = some ⟨oc, od, .func (PySem.W.fnOf x x (defArgs st) (defBody st) (defScope st) .none kV dc pm an cd ct), sl⟩ ∧
    PySem.W.codeIn K cd x = true ∧ PySem.W.keepIn K (.ref f) = true ∧ mg x = some (.ref f) ∧
    Binds K (PySem.W.fnOf x x (defArgs st) (defBody st) (defScope st) .none kV dc pm an cd ct) ps []
theorem calOfC {P : Program} {w : World} {K : PySem.W.Frag} {mg : Str → Option Value} {base : Heap} {x : Str} {st : Stmt} {N ps : List Str} {k : Nat} {sp : Sp} {cd : Value}
    (D : DefC K mg x st ps cd) (S : FnScope N ps (defScope st))
    (many : ∀ vs H Q E, sp vs H Q E → vs.length = ps.length)
    (body : ∀ (f : Addr) (A : Around) (outer : List Env) (s : Shared) (H : Hp) (vs : List V) (Q : VK) (E : XK),
      Room k (A.deeper (envOfC x (defScope st) s.heap.objs.size f cd)) → sp vs H Q E →
      ∃ t, PSs (cxOf CX0 P w K mg base N x (defScope st) f cd A outer s H E).nox (defBody st) t ∧ t { nx := fun _ H' => Q .non H', rt := Q } (start N vs) H) :
    C8.Cal P w K mg base (k + 1) x sp [] := by
  obtain ⟨f, oc, od, an, sl, kV, dc, pm, ct, lk, hcd, kp, hm, hb⟩ := D.ex
  refine ⟨f, _, ps, [], ⟨many, fun A outer s H args us vs Q E hr e0 hb r hsp => ?_⟩, hm, kp, hb, .nil⟩
  have hlen := many _ _ _ _ hsp
  have KX : K.In s.heap := e0.mod.kin.keeps fun b o e => (e0.bs b o e).1
  have lim := e0.mod.nolimit.keeps fun b o e => (e0.bs b o e).1
  have kinds : ∀ y ∈ ps.zip us, (defScope st).names.lookup y.1 = some .local ∨
      ((defScope st).names.lookup y.1 = some .cell ∧ ((cellsFrom (s.heap.objs.size + 1) (defScope st).names []).lookup y.1).isSome = true) := by
    rintro ⟨n, v⟩ hy
    cases S.par n (List.of_mem_zip hy).1 with
    | inl q => exact .inl q
    | inr q => exact .inr ⟨q, PySem.W.cellsFrom_some _ _ _ (.inl q)⟩
  refine codeAny_call_function hr.depth (KX _ _ lk) rfl S.co S.gen rfl (PySem.W.codeRec_of KX hcd) (hb _ _ _ _ ?_)
  refine wpAny_newFunctionEnv_cells S.kind kinds fun env he s1 y => ?_
  subst he
  refine ⟨lim.keeps y.toInCall.keep, codeAny_func ?_⟩
  obtain ⟨t, ht, hq⟩ := body f A outer s H vs Q E (hr.deeper _) hsp
  have I := inv_start (CX := CX0) (E := E) S hr.hd e0 hlen r y
  refine wpAny_mono (ht.nox.run [] s1 (start N vs) H _ I hq) (fun fl s' hs => ?_) (fun _ _ hs => hs)
  cases fl with
  | brk => exact (hs.choose_spec.choose_spec.2 : False).elim
  | cont => exact (hs.choose_spec.choose_spec.2 : False).elim
  | next =>
    obtain ⟨_, H', J, q⟩ := hs
    exact ⟨V.non, H', J.os, J.bare, J.base, J.hok, rfl, q⟩
  | ret u =>
    obtain ⟨v, _, H', J, rv, q⟩ := hs
    exact ⟨v, H', J.os, J.bare, J.base, J.hok, rv, q⟩
end Vf

set_option Elab.async false
set_option linter.all false
set_option maxRecDepth 100000
set_option maxHeartbeats 4000000
/-! Own words: an error class of one field; try whose first clause, with a name, takes all that comes. -/
namespace Vf
open PySem PySem.Spec PyProof.Rows L2

/-- the ends behind a suite; what stood in slot i is gone there -/
def clearE (i : Nat) (D : Ends) : Ends :=
  ⟨fun τ G => D.nx (τ.set i none) G, D.rt, fun τ G => D.bk (τ.set i none) G, fun τ G => D.ct (τ.set i none) G⟩
/-- wished of an exception of the body: it is the first clause's -/
def wHd (K : PySem.W.Frag) (c : Value) (i : Nat) (ts : Addr → Value → Option Addr → TS) (D : Ends) : WX :=
  fun z d τ G => PySem.W.exmOne K z c = some true ∧ ∀ a, G a = none → ts a z d (clearE i D) (τ.set i (some (.ref a))) G

section
variable {X : Cx} {x n : Str} {c : Value} {i : Nat} {body suite : List Stmt} {st : Stmt} {np pos q : Pos} {more : List ExceptHandler}
  {tb : WX → TS} {ts : Addr → Value → Option Addr → TS} {D : Ends} {pins : List (Addr × Obj)} {τ : L2.St} {G : Hp} {s : Shared}
/-- the suite runs with the exception in slot i, which is gone behind it -/
theorem hd_suite {a : Addr} {oe : Obj} {z : Value} {d : Option Addr} {vs : Array Value} (nd : X.N.Nodup) (hi : X.N[i]? = some n) (loc : X.env.kindOf n = some .local)
    (run : PSs (X.suite a ((a, oe) :: (X.pn ++ pins))) (st :: suite) (ts a z d)) (J : Inv X pins τ G s)
    {R : Flow → Shared → Prop} {Er Es : Value → Shared → Prop} (hR : ∀ fl t, wpAny (model X.prog X.w) X.A (do bindName X.env n .none; unbindBehindTheSuite X.env n q) (fun _ u => SP X pins D fl u) X.xe t → R fl t)
    (e : s.heap.get? a = some oe) (f : oe.data = .fields vs) (na : G a = none) (nl : a ≠ X.env.locals) (nf : a ∉ X.fs)
    (h : ts a z d (clearE i D) (τ.set i (some (.ref a))) G) :
    wpAny (model X.prog X.w) (X.A.mark (some (.ref a))) (storeName X.env n (.ref a))
      (fun _ t => wpAny (model X.prog X.w) (X.A.mark (some (.ref a))) (execs (st :: suite) X.env) R Er t) Es s := by
  have S := J.suite e f na nl nf
  refine store_ok (X := X.suite a ((a, oe) :: (X.pn ++ pins))) (v := .ref a) S nd hi (.inl loc) rfl (fun t T => ?_) (.inr loc)
  refine wpAny_mono (run.run [] t _ G _ T h) (fun fl u hu => hR fl u ?_) fun _ _ no => no.elim
  have away : ∀ {τ' : L2.St} {G' : Hp}, Inv (X.suite a ((a, oe) :: (X.pn ++ pins))) [] τ' G' u → (∀ u', Inv X pins (τ'.set i none) G' u' → SP X pins D fl u') →
      wpAny (model X.prog X.w) X.A (do bindName X.env n .none; unbindBehindTheSuite X.env n q) (fun _ u' => SP X pins D fl u') X.xe u :=
    fun I' k => gone_ok (I'.unsuite J.ok) nd hi loc k
  cases fl with
  | ret v =>
    obtain ⟨v', τ', G', I', r, w⟩ := hu
    exact away I' fun u' J' => ⟨v', _, G', J', r, w⟩
  | next =>
    obtain ⟨τ', G', I', w⟩ := hu
    exact away I' fun u' J' => ⟨_, G', J', w⟩
  | brk =>
    obtain ⟨τ', G', I', w⟩ := hu
    exact away I' fun u' J' => ⟨_, G', J', w⟩
  | cont =>
    obtain ⟨τ', G', I', w⟩ := hu
    exact away I' fun u' J' => ⟨_, G', J', w⟩
end
end Vf
namespace Vf
open PySem PySem.Spec PyProof.Rows L2
section
variable {X : Cx} {x n : Str} {c : Value} {i : Nat} {body suite : List Stmt} {st : Stmt} {np pos q : Pos} {more : List ExceptHandler}
  {tb : WX → TS} {ts : Addr → Value → Option Addr → TS} {D : Ends} {pins : List (Addr × Obj)} {s : Shared} {e : Value} {xo : Value → Shared → Prop}
/-- an exception that has landed is no frame -/
theorem no_frame {B : Heap} {es : List Env} {h : Heap} {a : Addr} {o : Obj} {vs : Array Value} (fr : h.FunFrames B es) (g : h.get? a = some o) (f : o.data = .fields vs) : a ∉ frs es := fun m => by
  obtain ⟨_, u, g', no⟩ := fr.mem m
  obtain rfl := Option.some.inj (g.symm.trans g')
  exact no _ f
/-- the name of the clause is read -/
theorem hd_name {a : Addr} {oe : Obj} {τ : L2.St} {G : Hp} {Q : Value → Shared → Prop} {Er : Value → Shared → Prop} (hc : Names X x c) (S : Inv (X.suite a ((a, oe) :: (X.pn ++ pins))) [] τ G s) (k : Q c s) :
    wpAny (model X.prog X.w) (X.A.mark (some (.ref a))) (eval (.Name x np) X.env) Q Er s := by
  rcases hc with ⟨gl, nb, own | ⟨free, boot, nn⟩⟩
  · exact ld_glob S gl own k nb
  · exact ld_blt S gl free boot k nn nb
theorem hd_catch (hs : X.stack = X.env :: X.outer) (hf : X.env.frame = some X.env.locals) (nd : X.N.Nodup) (hi : X.N[i]? = some n) (loc : X.env.kindOf n = some .local) (hc : Names X x c) (ok : X.Ok)
    (hsu : ∀ (a : Addr) (oe : Obj) (z : Value) (d : Option Addr) (pn : List (Addr × Obj)), Zc z d oe → (∃ vs, oe.data = .fields vs) → PSs (X.suite a ((a, oe) :: pn)) (st :: suite) (ts a z d))
    (air : XE (X.tr (X.pn ++ pins) xo) (wHd X.K c i ts D) e s) :
    wpAny (model X.prog X.w) X.A (noteFrame e X.env) (fun _ t => wpAny (model X.prog X.w) X.A (setFlight e none)
      (fun _ u => wpAny (model X.prog X.w) X.A (handleBy e X.env (.ExceptHandler (some (.Name x np)) (some n) (st :: suite) q :: more)) (SP X pins D) X.xe u) X.xe t) X.xe s := by
  obtain ⟨a, B, s0, pn, τ, G, z, d, rfl, J0, new, up, sky, na, os, bare, me, go⟩ := air
  have J : Inv X pins τ G s0 := J0.ofTry ok
  have frames : X.A.frames = some (X.env :: X.outer) := ok.frames.trans (congrArg some hs)
  refine Sky.land (B := B) Zc.steady frames hf (by rw [← hs]; exact sky) fun h1 fl1 up1 => ?_
  have J1 : Inv X pins τ G { s with heap := h1 } := J.landed new fl1.1 (up.trans up1) os bare
  obtain ⟨o1, v1, g1, z1, d1⟩ := fl1.there
  have nf := no_frame fl1.2.2.1 g1 d1
  have nl : a ≠ X.env.locals := fun eq => nf (List.mem_filterMap.mpr ⟨X.env, List.mem_cons_self, hf.trans (congrArg some eq.symm)⟩)
  have nfs : a ∉ X.fs := fun m => by
    obtain ⟨en, m1, m2⟩ := List.mem_filterMap.mp m
    exact nf (List.mem_filterMap.mpr ⟨en, List.mem_cons_of_mem _ m1, m2⟩)
  refine wpAny_handleBy_cons (codeAny_handlers_test (hd_name hc (J1.suite g1 d1 na nl nfs) ?_)) (fun no => by cases no)
  have lt : PySem.W.Looks (model X.prog X.w) h1 (typeOf (.ref a)) z := fun _ _ _ _ k w => wpAny_typeOf_ref (k _ _ g1) (by rw [z1.1]; exact w)
  refine (PySem.W.exm_one J1.kIn lt me).here (codeAny_handlers_suite_as (HandSPX.lands_againZ fl1 fun h2 fl2 up2 => ?_))
  obtain ⟨o2, v2, g2, z2, d2⟩ := fl2.there
  have J2 : Inv X pins τ G { s with heap := h2 } := J.landed new fl2.1 ((up.trans up1).trans up2) os bare
  exact hd_suite nd hi loc (hsu a o2 z d (X.pn ++ pins) z2 ⟨_, d2⟩) J2 (fun fl t w => w) g2 d2 na nl nfs (go a na)
/-- try: body, except x as n: suite, and more clauses that nothing comes to -/
theorem ps_try_hd (hs : X.stack = X.env :: X.outer) (hf : X.env.frame = some X.env.locals) (nd : X.N.Nodup) (hi : X.N[i]? = some n) (loc : X.env.kindOf n = some .local) (hc : Names X x c)
    (hb : ∀ (W : WX) (pn : List (Addr × Obj)) (xe : Value → Shared → Prop), Takes (X.tr pn xe) W → PSs (X.tr pn xe) body (tb W))
    (hsu : ∀ (a : Addr) (oe : Obj) (z : Value) (d : Option Addr) (pn : List (Addr × Obj)), Zc z d oe → (∃ vs, oe.data = .fields vs) → PSs (X.suite a ((a, oe) :: pn)) (st :: suite) (ts a z d)) :
    PS X (.Try body (.ExceptHandler (some (.Name x np)) (some n) (st :: suite) q :: more) [] [] pos) (fun D τ G => tb (wHd X.K c i ts D) D τ G) := by
  refine ⟨fun pins s τ G D I h => wpAny_Try_except ?_⟩
  have ok := I.ok
  have run := (hb (wHd X.K c i ts D) (X.pn ++ pins) _ fun u t air => hd_catch (np := np) (q := q) (more := more) hs hf nd hi loc hc ok hsu air).run [] s τ G D (I.toTry _) h
  refine wpAny_mono run (fun fl t w => ?_) fun _ _ w => w
  cases fl with
  | ret v =>
    obtain ⟨v', τ', G', J, r, w⟩ := w
    exact ⟨v', τ', G', J.ofTry ok, r, w⟩
  | next =>
    obtain ⟨τ', G', J, w⟩ := w
    exact wpAny_execs_nil ⟨τ', G', J.ofTry ok, w⟩
  | brk =>
    obtain ⟨τ', G', J, w⟩ := w
    exact ⟨τ', G', J.ofTry ok, w⟩
  | cont =>
    obtain ⟨τ', G', J, w⟩ := w
    exact ⟨τ', G', J.ofTry ok, w⟩
end
end Vf
namespace Vf
open PySem PySem.Spec PyProof.Rows L2
/-- an error class of the text that keeps one thing -/
structure XcT (K : PySem.W.Frag) (mg : Str → Option Value) (x fld : Str) (C fI : Addr) : Prop where
  gl : mg x = some (.ref C)
  cl : OexC K C
  ini : PySem.W.findIn K (.ref C) "__init__" = some (some (.ref fI))
  fn : PySem.W.typeIn K (.ref fI) = some (.type "function")
  no : PySem.W.findIn K (.ref C) fld = some none
  xf : XfC K C
  me : PySem.W.exmOne K (.ref C) (.ref C) = some true
/-- its __init__ -/
def spXi (C : Addr) (fld : Str) : Sp := fun vs H Q _ => ∃ (a : Addr) (v : V), vs = [.ref a, v] ∧ H a = some (exo a C none) ∧
  ∀ d, H d = none → d ≠ a → Q .non (upd (upd H d (exd d [(fld, v)])) a (exo a C (some d)))
theorem xi_ok {P : Program} {w : World} {K : PySem.W.Frag} {mg : Str → Option Value} {base : Heap} {x fld qual : Str} {C fI : Addr} {fd : FuncData} {sI : Stmt} {p1 p2 p3 p4 : Pos}
    (T : XcT K mg x fld C fI) (F : Fun K "__init__" qual sI fI fd) (S : FnScope ["self", fld] ["self", fld] (defScope sI))
    (hb : defBody sI = [.Assign [.Attribute (.Name "self" p1) fld p2] (.Name fld p3) p4])
    (v1 : Vis (defScope sI) "self") (v2 : Vis (defScope sI) fld) (nb : (fld == ("__debug__" : Str)) = false) (nc : (fld == ("__classdict__" : Str)) = false) :
    FnOk P w K mg base CX0 1 fI fd ["self", fld] (spXi C fld) := by
  refine F.ok S (fun vs H Q E h => ?_) (fun cdv A outer s H vs Q E hr h => ?_)
  · obtain ⟨a, v, rfl, _⟩ := h
    rfl
  · obtain ⟨a, v, rfl, ha, k⟩ := h
    rw [hb]
    refine ⟨_, pss_one (ps_ost (f := fld) (pe_var (i := 0) rfl v1 (by decide) (by decide)) (pe_var (i := 1) rfl v2 nb nc)), ?_⟩
    exact ⟨_, rfl, _, rfl, a, C, rfl, T.cl, T.no, .inl ⟨ha, fun d nd ne => k d nd ne⟩⟩
/-- the class, ready to be raised -/
structure XcR (P : Program) (w : World) (K : PySem.W.Frag) (mg : Str → Option Value) (base : Heap) (x fld : Str) (C : Addr) : Prop where
  ex : ∃ (fI : Addr) (fd : FuncData), XcT K mg x fld C fI ∧ FnOk P w K mg base CX0 1 fI fd ["self", fld] (spXi C fld) ∧ Binds K fd ["self", fld] []
theorem ps_raiseX {X : Cx} {W : WX} {x fld : Str} {C : Addr} {k : Nat} {e : Expr} {ta : TA} {p pos pos2 : Pos} (hc : X.calm = true) (R : XcR X.prog X.w X.K X.mg X.base x fld C) (hr : Room k X.A) (h2 : 2 ≤ k) (tk : Takes X W) (ha : PA X [e] ta) (hg : Gl X x := by rfl)
    (hdb : (x == ("__debug__" : Str)) = false := by decide) (he : starEach (e :: []) X.env = (false, eval e X.env) :: starEach [] X.env := by rfl) (hpl : (backTo pos (starEach [] X.env)).any (·.1) = false := by rfl) :
    PS X (.Raise (some (.Call (.Name x p) [e] [] pos)) none pos2) (fun _ σ H => tMkO C (spXi C fld) [] ta σ H fun cls d H' => W cls d σ H') := by
  obtain ⟨fI, fd, T, F, b⟩ := R.ex
  exact ps_raise hc tk (pmk_oex T.cl T.ini T.fn F (hr.mono h2) b .nil pass0 hg T.gl ha hdb he hpl)
/-- what is asked where it is made -/
theorem raiseX_in {C : Addr} {fld : Str} {H1 : Hp} {v : V} {Q : XK} (h : ∀ d H2, Same H1 H2 → H1 d = none → H2 d = some (.xd [(fld, v)]) → Q (.ref C) (some d) H2) :
    [v].length ≤ 1000 ∧ ∀ a, H1 a = none → spXi C fld (.ref a :: ([v] ++ [])) (upd H1 a (exo a C none))
      (fun u H2 => u = .non ∧ ∃ (d : Addr) (fs : List (Str × V)), H2 a = some (exo a C (some d)) ∧ H2 d = some (exd d fs) ∧ H1 d = none ∧ Q (.ref C) (some d) (upd (del H2 a) d (.xd fs))) (fun _ _ _ => False) := by
  refine ⟨Nat.le_trans (Nat.le_refl 1) (by decide), fun a na => ⟨a, v, rfl, upd_same, fun d nd ne => ⟨rfl, d, [(fld, v)], upd_same, ?_, ?_, h d _ (fun b o hb => ?_) ?_ upd_same⟩⟩⟩
  · rw [upd_ne ne, upd_same]
  · rw [upd_ne ne] at nd
    exact nd
  · rw [upd_ne ne] at nd
    rw [upd_ne (ne_of_none hb nd), del_ne (ne_of_none hb na), upd_ne (ne_of_none hb na), upd_ne (ne_of_none hb nd), upd_ne (ne_of_none hb na)]
    exact hb
  · rw [upd_ne ne] at nd
    exact nd
theorem sameT {K : PySem.W.Frag} {H H' : Hp} {a : Addr} {xs : List V} (e : Same H H') (h : SqT K H a xs) : SqT K H' a xs := by
  rcases h with (h | ⟨o, h⟩) | h
  · exact .inl (.inl (e _ _ h))
  · exact .inl (.inr ⟨o, e _ _ h⟩)
  · exact .inr h
/-- what a for walks: a list or a tuple -/
theorem pi_either {X : Cx} {tg l : Expr} {tl : TE} (hl : PE X l tl) : PI X tg l (fun σ H R => iList X.K tl σ H R ∨ iTup X.K tl σ H R) :=
  ⟨fun pins s σ H R I h => h.elim ((pi_list hl).run pins s σ H R I) ((pi_tup hl).run pins s σ H R I)⟩
/-- the turns over either -/
theorem for_either {K : PySem.W.Frag} {a : Addr} {xs : List V} {i : Nat} {g : TG} {tb : TS} {D : Ends} {σ : L2.St} {H0 H : Hp} (hq : SqL K H0 a xs ∨ SqT K H0 a xs) (hi : σ[i]? = some (some (.ref a)))
    (Pv : Nat → L2.St → Hp → Prop) (h0 : Pv 0 σ H) (hl : ∀ i σ' H', Pv i σ' H' → Same H0 H')
    (hs : ∀ i x σ H, xs[i]? = some x → Pv i σ H → g x σ H fun σ2 H2 => tb { D with nx := Pv (i + 1), ct := Pv (i + 1), bk := D.nx } σ2 H2) (hd : ∀ σ H, Pv xs.length σ H → D.nx σ H) :
    tFor (fun σ H R => iList K (tVar i) σ H R ∨ iTup K (tVar i) σ H R) g tb D σ H := by
  rcases hq with hq | hq
  · exact .inl ⟨.ref a, hi, a, rfl, ⟨xs, (hl 0 σ H h0).seq hq⟩, for_list (K := K) (a := a) (xs := xs) Pv h0 (fun j σ' H' _ p => (hl j σ' H' p).seq hq) hs hd⟩
  · exact .inr ⟨.ref a, hi, a, rfl, ⟨xs, sameT (hl 0 σ H h0) hq⟩, for_tup (K := K) (a := a) (xs := xs) Pv h0 (fun j σ' H' _ p => sameT (hl j σ' H' p) hq) hs hd⟩
end Vf
namespace Vf
open PySem PySem.Spec PyProof.Rows L2
/-- a def of the text that may raise -/
structure CalX (P : Program) (w : World) (K : PySem.W.Frag) (mg : Str → Option Value) (base : Heap) (k : Nat) (x : Str) (ps : List Str) (sp : Sp) : Prop where
  ex : ∃ (f : Addr) (fd : FuncData), FnOk P w K mg base (L2.CX P w) k f fd ps sp ∧ mg x = some (.ref f) ∧ PySem.W.keepIn K (.ref f) = true ∧ Binds K fd ps []
theorem calXOf {P : Program} {w : World} {K : PySem.W.Frag} {mg : Str → Option Value} {base : Heap} {x : Str} {st : Stmt} {N ps : List Str} {k : Nat} {sp : Sp}
    (D : DefIn K mg x st ps) (S : FnScope N ps (defScope st)) (many : ∀ vs H Q E, sp vs H Q E → vs.length = ps.length)
    (body : ∀ (f : Addr) (cdv : Value) (A : Around) (outer : List Env) (s : Shared) (H : Hp) (vs : List V) (Q : VK) (E : XK),
      Room k (A.deeper (envOfC x (defScope st) s.heap.objs.size f cdv)) → sp vs H Q E →
      ∃ t, PSs (cxOf (L2.CX P w) P w K mg base N x (defScope st) f cdv A outer s H E) (defBody st) t ∧ t { nx := fun _ H' => Q .non H', rt := Q } (start N vs) H) :
    CalX P w K mg base (k + 1) x ps sp := by
  obtain ⟨f, fd, F, hm, hb⟩ := D.ex
  exact ⟨f, fd, F.okX S many (fun cdv A o s H vs Q E hr h => body f cdv A o s H vs Q E hr h), hm, F.kp, hb⟩
theorem pe_cX {X : Cx} {k j : Nat} {x : Str} {ps : List Str} {sp : Sp} {W : WX} {p pos : Pos} {e : Expr} {es : List Expr} {t : TA} (c : CalX X.prog X.w X.K X.mg X.base k x ps sp) (hr : Room j X.A) (hk : k ≤ j) (hg : Gl X x) (tk : Takes X W) (ha : PA X (e :: es) t)
    (hdb : (x == ("__debug__" : Str)) = false := by decide) (he : starEach (e :: es) X.env = (false, eval e X.env) :: starEach es X.env := by rfl) (hpl : (backTo pos (starEach es X.env)).any (·.1) = false := by rfl) :
    PE X (.Call (.Name x p) (e :: es) [] pos) (tCallS sp (WE W) t) := by
  obtain ⟨f, fd, F, hm, kp, b⟩ := c.ex
  exact pe_callS F (hr.mono hk) hg hm kp b (fun σ => passAt tk σ) ha hdb he hpl
end Vf
namespace Vf
open PySem PySem.Spec PyProof.Rows L2
/-- an error of the class itself is what a clause of it names -/
theorem exm_me {K : PySem.W.Frag} {S : Addr} (sub : PySem.W.subIn K (.ref S) (.type "BaseException") = some true) (is : PySem.W.isClsIn K S = true) (ty : PySem.W.typeIn K (.ref S) = some (.type "type")) (own : PySem.W.subIn K (.ref S) (.ref S) = some true) :
    PySem.W.exmOne K (.ref S) (.ref S) = some true := by
  have is' : (PySem.W.clsIn K S).isSome = true := is
  unfold PySem.W.exmOne PySem.W.kitCls
  simp only [sub, is', ty, own, beq_self_eq_true, Bool.and_self, if_true]
end Vf

set_option Elab.async false
set_option linter.all false
set_option maxRecDepth 100000
set_option maxHeartbeats 4000000
/-! Own words: changes of texts. -/
namespace Vf
open PySem PySem.Spec PyProof.Rows L2
open TL (tl joinL tl_join join_eq)
theorem tl_inj {x y : Str} (h : tl x = tl y) : x = y := Str.ext' (Array.toList_inj.mp h)
theorem tl_cat (x y : Str) : tl (x ++ y) = tl x ++ tl y := by
  show (x ++ y).cps.toList = _
  rw [Str.cps_append, Array.toList_append]
theorem joinL_nil : ∀ l : List (List Nat), joinL [] l = l.flatten
  | [] => rfl
  | [p] => by simp [joinL]
  | p :: q :: r => by
    show p ++ ([] ++ joinL [] (q :: r)) = p ++ (q :: r).flatten
    rw [joinL_nil (q :: r)]
    rfl
theorem tl_glue (l : List Str) : tl (Txt.join "" l) = (l.map tl).flatten := by
  rw [join_eq, tl_join]
  exact joinL_nil _
theorem glue_snoc (l m : List Str) : Txt.join "" (l ++ m) = Txt.join "" l ++ Txt.join "" m := by
  apply tl_inj
  rw [tl_cat, tl_glue, tl_glue, tl_glue, List.map_append, List.flatten_append]
theorem glue_two (l : List Str) (x y : Str) : Txt.join "" (l ++ [x, y]) = Txt.join "" l ++ x ++ y := by
  apply tl_inj
  rw [glue_snoc, tl_cat, tl_cat, tl_cat, tl_glue [x, y]]
  simp
theorem str_len (x : Str) : x.length = (tl x).length := by
  simp [Str.length]
theorem glue_len (l : List Str) : (Txt.join "" l).length = (l.map (·.length)).sum := by
  rw [str_len, tl_glue, List.length_flatten, List.map_map]
  congr 1
theorem sum_le {n : Nat} : ∀ {l : List Str}, (∀ x ∈ l, x.length ≤ n) → (l.map (·.length)).sum ≤ l.length * n
  | [], _ => Nat.zero_le _
  | x :: r, h => by
    have a := h x (List.mem_cons_self ..)
    have b := sum_le fun y hy => h y (List.mem_cons_of_mem _ hy)
    simp only [List.map_cons, List.sum_cons, List.length_cons, Nat.succ_mul]
    omega
/-- signs that can be shown -/
def Nice (x : Str) : Prop := ∀ c ∈ tl x, c < 0x110000
theorem Nice.tame {x : Str} (h : Nice x) : Vf.tame (.str x) = true := by
  show x.cps.all _ = true
  rw [← Array.all_toList, List.all_eq_true]
  exact fun c hc => decide_eq_true (h c hc)
theorem Nice.cat {x y : Str} (a : Nice x) (b : Nice y) : Nice (x ++ y) := fun c hc => by
  rw [tl_cat, List.mem_append] at hc
  exact hc.elim (a c) (b c)
theorem Nice.glue {l : List Str} (h : ∀ x ∈ l, Nice x) : Nice (Txt.join "" l) := fun c hc => by
  rw [tl_glue, List.mem_flatten] at hc
  obtain ⟨p, hp, hc⟩ := hc
  obtain ⟨x, hx, rfl⟩ := List.mem_map.mp hp
  exact h x hx c hc
theorem cut_mem {x : Str} {lo hi : Option Int} {c : Nat} (h : c ∈ tl (cutS x lo hi)) : c ∈ tl x := by
  unfold cutS at h
  simp only [tl] at h ⊢
  first
    | exact List.mem_of_mem_drop (List.mem_of_mem_take (by simpa using h))
    | exact List.mem_of_mem_take (List.mem_of_mem_drop (by simpa using h))
theorem Nice.cut {x : Str} (h : Nice x) (lo hi : Option Int) : Nice (cutS x lo hi) := fun c hc => h c (cut_mem hc)
theorem nice_of {x : Str} (h : (tl x).all (· < 0x110000) = true) : Nice x := fun c hc => of_decide_eq_true (List.all_eq_true.mp h c hc)

/-- a change: its begin, its end, its string -/
structure Ch where
  b : Int
  e : Int
  s : Str
def chD (c : Ch) : PyData := .tuple [.int c.b, .int c.e, .str c.s]
/-- the first change that is refused, l being the end of the one ahead -/
def firstBad (n : Int) : Int → List Ch → Option Ch
  | _, [] => none
  | l, c :: r => if n < c.e ∨ c.b < l then some c else firstBad n c.e r
def stp (t : Str) (p : List Str × Int) (c : Ch) : List Str × Int := (p.1 ++ [cutS t (some p.2) (some c.b), c.s], c.e)
def stAt (t : Str) (cs : List Ch) (i : Nat) : List Str × Int := (cs.take i).foldl (stp t) ([], 0)
theorem stAt_succ {t : Str} {cs : List Ch} {i : Nat} {c : Ch} (h : cs[i]? = some c) : stAt t cs (i + 1) = stp t (stAt t cs i) c := by
  unfold stAt
  rw [List.take_add_one, h, List.foldl_append]
  rfl
theorem drop_at {α : Type} {cs : List α} {i : Nat} {c : α} (h : cs[i]? = some c) : cs.drop i = c :: cs.drop (i + 1) := by
  obtain ⟨hi, e⟩ := List.getElem?_eq_some_iff.mp h
  rw [List.drop_eq_getElem_cons hi, e]
/-- what all make -/
def allCh (t : Str) (cs : List Ch) : Str := Txt.join "" (stAt t cs cs.length).1 ++ cutS t (some (stAt t cs cs.length).2) none
def dueD (t : Str) (cs : List Ch) : PyData := match firstBad t.length 0 cs with
  | some c => .tuple [.str "no change", chD c]
  | none => .tuple [.str "told", .str (allCh t cs)]
theorem due_bad {t : Str} {cs : List Ch} {c : Ch} (h : firstBad t.length 0 cs = some c) : dueD t cs = .tuple [.str "no change", chD c] := by
  unfold dueD
  rw [h]
theorem due_ok {t : Str} {cs : List Ch} (h : firstBad t.length 0 cs = none) : dueD t cs = .tuple [.str "told", .str (allCh t cs)] := by
  unfold dueD
  rw [h]
/-- changes that are not too large -/
structure ChOk (c : Ch) : Prop where
  b : c.b.natAbs ≤ 1000
  e : c.e.natAbs ≤ 1000
  s : c.s.length ≤ 100
  n : Nice c.s
theorem parts_ok {t : Str} (nt : Nice t) (lt : t.length ≤ 1000) {cs : List Ch} (h : ∀ c ∈ cs, ChOk c) : ∀ i, (stAt t cs i).1.length ≤ 2 * i ∧ ∀ x ∈ (stAt t cs i).1, x.length ≤ 1000 ∧ Nice x
  | 0 => ⟨Nat.le_refl _, fun x hx => by cases hx⟩
  | i + 1 => by
    obtain ⟨a, b⟩ := parts_ok nt lt h i
    cases e : cs[i]? with
    | none =>
      have : stAt t cs (i + 1) = stAt t cs i := by
        unfold stAt
        rw [List.take_add_one, e]
        simp
      rw [this]
      exact ⟨by omega, b⟩
    | some c =>
      have k := h c (List.mem_of_getElem? e)
      rw [stAt_succ e]
      refine ⟨?_, fun x hx => ?_⟩
      · show ((stAt t cs i).1 ++ [_, _]).length ≤ _
        rw [List.length_append]
        simp only [List.length_cons, List.length_nil]
        omega
      · rcases List.mem_append.mp (show x ∈ (stAt t cs i).1 ++ [cutS t (some (stAt t cs i).2) (some c.b), c.s] from hx) with hx | hx
        · exact b x hx
        · rcases List.mem_cons.mp hx with rfl | hx
          · exact ⟨Nat.le_trans (cutS_length _ _ _) lt, nt.cut _ _⟩
          · cases List.mem_singleton.mp hx
            exact ⟨Nat.le_trans k.s (by decide), k.n⟩
theorem all_len {t : Str} (nt : Nice t) (lt : t.length ≤ 1000) {cs : List Ch} (h : ∀ c ∈ cs, ChOk c) (lc : cs.length ≤ 100) (i : Nat) (hi : i ≤ cs.length) :
    (Txt.join "" (stAt t cs i).1).length ≤ 200000 ∧ ((stAt t cs i).1.map (·.length)).sum ≤ 200000 := by
  obtain ⟨a, b⟩ := parts_ok nt lt h i
  have z := sum_le fun x hx => (b x hx).1
  rw [glue_len]
  omega
theorem chD_ok {c : Ch} (h : ChOk c) : tame (chD c) = true ∧ (chD c).depth = 1 ∧ wt (chD c) ≤ 2000 := by
  obtain ⟨hb, he, hs, hn⟩ := h
  refine ⟨?_, rfl, ?_⟩
  · show (decide (c.b.natAbs < 10 ^ 30) && (decide (c.e.natAbs < 10 ^ 30) && (tame (.str c.s) && true))) = true
    rw [hn.tame, decide_eq_true (Nat.lt_of_le_of_lt hb (by decide +kernel)), decide_eq_true (Nat.lt_of_le_of_lt he (by decide +kernel))] <;> rfl
  · show 32 + 2 + (32 + 2 + (10 * c.s.length + 2 + 2 + 0)) + 4 ≤ 2000
    omega
theorem firstBad_mem {n : Int} : ∀ {cs : List Ch} {l : Int} {c : Ch}, firstBad n l cs = some c → c ∈ cs
  | [], _, _, h => by cases h
  | x :: r, l, c, h => by
    unfold firstBad at h
    split at h
    · cases h
      exact List.mem_cons_self ..
    · exact List.mem_cons_of_mem _ (firstBad_mem h)
theorem due_okd {t : Str} (nt : Nice t) (lt : t.length ≤ 1000) {cs : List Ch} (h : ∀ c ∈ cs, ChOk c) (lc : cs.length ≤ 100) : OkD (dueD t cs) := by
  cases e : firstBad t.length 0 cs with
  | some c =>
    rw [due_bad e]
    obtain ⟨a1, a2, a3⟩ := chD_ok (h c (firstBad_mem e))
    refine ⟨?_, ?_, ?_⟩
    · show (tame (.str "no change") && (tame (chD c) && true)) = true
      rw [a1, show tame (.str "no change") = true by decide +kernel] <;> rfl
    · show max 0 (max (chD c).depth 0) + 1 ≤ 60
      rw [a2]
      decide
    · show 10 * ("no change" : Str).length + 2 + 2 + (wt (chD c) + 2 + 0) + 4 ≤ 16000000
      rw [show (("no change" : Str)).length = 9 from rfl]
      omega
  | none =>
    rw [due_ok e]
    obtain ⟨p1, p2⟩ := parts_ok nt lt h cs.length
    have q := (all_len nt lt h lc cs.length (Nat.le_refl _)).1
    have nn : Nice (allCh t cs) := (Nice.glue fun x hx => (p2 x hx).2).cat (nt.cut _ _)
    have ll : (allCh t cs).length ≤ 201000 := by
      unfold allCh
      have := cutS_length t (some (stAt t cs cs.length).2) none
      rw [Str.length_append]
      omega
    refine ⟨?_, Nat.le_trans (Nat.le_refl 1) (by decide), ?_⟩
    · show (tame (.str "told") && (tame (.str (allCh t cs)) && true)) = true
      rw [nn.tame, show tame (.str "told") = true by decide +kernel] <;> rfl
    · show 10 * ("told" : Str).length + 2 + 2 + (10 * (allCh t cs).length + 2 + 2 + 0) + 4 ≤ 16000000
      rw [show (("told" : Str)).length = 4 from rfl]
      omega
theorem chs_okd : ∀ {cs : List Ch}, (∀ c ∈ cs, ChOk c) → tameAll (cs.map chD) = true ∧ PyData.depthAll (cs.map chD) ≤ 1 ∧ wtAll (cs.map chD) ≤ cs.length * 2002
  | [], _ => ⟨rfl, Nat.zero_le _, Nat.le_refl _⟩
  | c :: r, h => by
    obtain ⟨a1, a2, a3⟩ := chD_ok (h c (List.mem_cons_self ..))
    obtain ⟨b1, b2, b3⟩ := chs_okd fun x hx => h x (List.mem_cons_of_mem _ hx)
    refine ⟨?_, ?_, ?_⟩
    · show (tame (chD c) && tameAll (r.map chD)) = true
      rw [a1, b1] <;> rfl
    · show max (chD c).depth (PyData.depthAll (r.map chD)) ≤ 1
      rw [a2]
      omega
    · show wt (chD c) + 2 + wtAll (r.map chD) ≤ (r.length + 1) * 2002
      omega
/-- what stands there for a change -/
theorem ch_at {H : Hp} {v : V} {c : Ch} (t : Tr H v (chD c)) : ∃ q, v = .ref q ∧ H q = some (.tup [.int c.b, .int c.e, .str c.s]) := by
  unfold chD at t
  cases t with
  | tup h r =>
    cases r with
    | cons h1 r =>
      cases h1
      cases r with
      | cons h2 r =>
        cases h2
        cases r with
        | cons h3 r =>
          cases h3
          cases r
          exact ⟨_, rfl, h⟩
theorem chs_at {H : Hp} {xs : List V} {cs : List Ch} (t : TrAll H xs (cs.map chD)) {i : Nat} {y : V} (h : xs[i]? = some y) : ∃ c q, cs[i]? = some c ∧ y = .ref q ∧ H q = some (.tup [.int c.b, .int c.e, .str c.s]) ∧ Tr H y (chD c) := by
  obtain ⟨d, hd, ty⟩ := t.get h
  rw [List.getElem?_map] at hd
  obtain ⟨c, hc, rfl⟩ := Option.map_eq_some_iff.mp hd
  obtain ⟨q, rfl, hq⟩ := ch_at ty
  exact ⟨c, q, hc, rfl, hq, ty⟩
end Vf
namespace Vf
open PySem PySem.Spec PyProof.Rows L2
/-- a text, and the changes of it in a list or a tuple -/
structure Chs (K : PySem.W.Frag) (H : Hp) (t : Str) (a : Addr) (xs : List V) (cs : List Ch) : Prop where
  sq : SqL K H a xs ∨ SqT K H a xs
  tr : TrAll H xs (cs.map chD)
  nt : Nice t
  lt : t.length ≤ 1000
  ok : ∀ c ∈ cs, ChOk c
  lc : cs.length ≤ 100
theorem Chs.len {K : PySem.W.Frag} {H : Hp} {t : Str} {a : Addr} {xs : List V} {cs : List Ch} (h : Chs K H t a xs cs) : xs.length = cs.length := by
  rw [h.tr.len, List.length_map]
theorem Chs.same {K : PySem.W.Frag} {H H' : Hp} {t : Str} {a : Addr} {xs : List V} {cs : List Ch} (h : Chs K H t a xs cs) (s : Same H H') : Chs K H' t a xs cs :=
  ⟨h.sq.elim (fun q => .inl (s.seq q)) (fun q => .inr (sameT s q)), h.tr.keep (Tk.of s), h.nt, h.lt, h.ok, h.lc⟩
def spAllX (K : PySem.W.Frag) (C : Addr) : Sp := fun vs H Q E => ∃ (t : Str) (a : Addr) (xs : List V) (cs : List Ch), vs = [.str t, .ref a] ∧ Chs K H t a xs cs ∧
  (∀ c v d H', firstBad t.length 0 cs = some c → Tr H' v (chD c) → Same H H' → H' d = some (.xd [(("change" : Str), v)]) → E (.ref C) (some d) H') ∧
  (firstBad t.length 0 cs = none → ∀ H', Same H H' → Q (.str (allCh t cs)) H')
/-- told, or refused -/
def spDue (K : PySem.W.Frag) : Sp := fun vs H Q _ => ∃ (t : Str) (a : Addr) (xs : List V) (cs : List Ch), vs = [.str t, .ref a] ∧ Chs K H t a xs cs ∧
  ∀ v H', Same H H' → Tr H' v (dueD t cs) → Q v H'
def spAllC (K : PySem.W.Frag) : Sp := fun vs H Q _ => ∃ (t : Str) (a : Addr) (xs : List V) (cs : List Ch), vs = [.str t, .ref a] ∧ Chs K H t a xs cs ∧ ∀ H', Same H H' → Q (.str (allCh t cs)) H'
end Vf
namespace Vf
open PySem PySem.Spec PyProof.Rows L2
/-- one of some written things -/
theorem pick_of {K : PySem.W.Frag} {g : Bg} {H1 : Hp} {c e : Int} {l : List V} {p : Addr} {Q : VK} (B : Bag H1 g c e) (hp : H1 p = none) (h0 : 0 < l.length) (h1 : l.length < 1000)
    (k : ∀ v H3, v ∈ l → Drawn g H1 H3 c e → Q v H3) : spOne K [.ref g.b, .ref p] (upd H1 p (.lst l)) Q E0 :=
  ⟨g, _, c, e, rfl, B.new hp, .inl ⟨p, l, rfl, .inl (SqL.of upd_same), B.ne_new hp, h0, h1, fun v H3 hv D => k v H3 hv (((Drawn.of B).new hp).trans D)⟩⟩
theorem strs_in {l : List Str} {v : V} (h : v ∈ l.map V.str) : ∃ z, z ∈ l ∧ v = .str z := by
  obtain ⟨z, hz, rfl⟩ := List.mem_map.mp h
  exact ⟨z, hz, rfl⟩
theorem ints_in {l : List Int} {v : V} (h : v ∈ l.map V.int) : ∃ z, z ∈ l ∧ v = .int z := by
  obtain ⟨z, hz, rfl⟩ := List.mem_map.mp h
  exact ⟨z, hz, rfl⟩
theorem TrAll.set' {H : Hp} {v : V} {d : PyData} (t : Tr H v d) : ∀ {vs : List V} {ds : List PyData} (j : Nat), TrAll H vs ds → TrAll H (vs.set j v) (ds.set j d)
  | _, _, _, .nil => .nil
  | _, _, 0, .cons _ r => .cons t r
  | _, _, j + 1, .cons h r => .cons h (TrAll.set' t j r)
theorem tr_due {H : Hp} {v : V} {t : Str} {cs : List Ch} (h : Tr H v (dueD t cs)) : ∃ p, v = .ref p := by
  cases e : firstBad t.length 0 cs with
  | some c =>
    rw [due_bad e] at h
    cases h
    exact ⟨_, rfl⟩
  | none =>
    rw [due_ok e] at h
    cases h
    exact ⟨_, rfl⟩
theorem lst_okd {cs : List Ch} (h : ∀ c ∈ cs, ChOk c) (l : cs.length ≤ 100) : OkD (.list (cs.map chD)) ∧ OkD (.tuple (cs.map chD)) := by
  obtain ⟨a, b, c⟩ := chs_okd h
  refine ⟨⟨a, ?_, ?_⟩, ⟨a, ?_, ?_⟩⟩
  · show PyData.depthAll (cs.map chD) + 1 ≤ 60
    omega
  · show wtAll (cs.map chD) + 4 ≤ 16000000
    omega
  · show PyData.depthAll (cs.map chD) + 1 ≤ 60
    omega
  · show wtAll (cs.map chD) + 4 ≤ 16000000
    omega
/-- where the item stood -/
theorem at_of_ix {α : Type} {xs : List α} {r : Int} (h0 : 0 ≤ r) (h1 : r < (xs.length : Int)) : ∃ (j : Nat) (v : α), xs[j]? = some v ∧ atI xs r = some v ∧ ixN xs.length r = some j := by
  obtain ⟨j, rfl⟩ := Int.eq_ofNat_of_zero_le h0
  have hj : j < xs.length := by omega
  refine ⟨j, xs[j], List.getElem?_eq_getElem hj, atI_nat (j := j) (List.getElem?_eq_getElem hj), ?_⟩
  first
    | exact ixN_nat hj
    | (unfold ixN; simp [hj])
theorem chs_set {cs : List Ch} {c : Ch} (j : Nat) (h : ∀ x ∈ cs, ChOk x) (hc : ChOk c) : ∀ x ∈ cs.set j c, ChOk x := fun x hx => by
  rcases List.mem_or_eq_of_mem_set hx with q | q
  · exact h x q
  · rw [q]
    exact hc
end Vf

set_option Elab.async false
set_option linter.all false
set_option maxRecDepth 100000
set_option maxHeartbeats 4000000
/-! The end of a law some of whose defs make lambdas: their code objects and the tables of what they made, in a list. -/
namespace Vf
open PySem PySem.Spec PyProof.Rows L2
open LamX (CodeO TabS Tabs ExtN TabB)
abbrev tabE : Obj := { cls := .none, data := .fields #[] }
section
variable {P : Program} {w : World} {K : PySem.W.Frag}
  {mg mb : Str → Option Value} {k : Nat} {fa a : Addr} {fd : FuncData}
  {x : Str} {sp : Sp} {s₁ : Shared} {vs : List Value} {ns : List Int} {L : List (Addr × Addr)}

theorem law_goesY (KX : K.In s₁.heap)
    (hns : s₁.heap.Ns mainGlobals mg) (hb : s₁.heap.Ns builtinsNs mb)
    (hbb : ∀ y : Str, y ≠ "__name__" → mb y = bootBuiltins y)
    (hlim : s₁.heap.NoLimit) (hgen : s₁.gens = #[])
    (hT : ∀ p ∈ L, s₁.heap.get? p.2 = some tabE ∧ K.lookup p.2 = none ∧ PySem.W.CodeHd s₁.heap p.1 p.2)
    (hbm : ∃ (bm : Addr) (ob : Obj), mg "__builtins__" = some (.ref bm) ∧ bm ≠ builtinsNs ∧ s₁.heap.get? bm = some ob ∧ ob.cls = .type "module" ∧ ob.dict = some builtinsNs ∧ ob.data = .plain)
    (ha : s₁.heap.get? a =
      some { cls := .type "list", data := .seq vs.toArray })
    (hr : Room k callerA)
    (F : ∀ base : Heap, K.In base → base.Ns mainGlobals mg → (∀ p ∈ L, TabB base mg p.1 p.2) →
      FnG P w K mg base k fa fd [x] sp)
    (bind : ∀ (s : Shared) (u : Value),
      BindsTo s fd ⟨[u], []⟩ [(x, u)])
    (H : Hp) (hHT : ∀ p ∈ L, H p.2 = some (.tbl #[])) (hO : ∀ b, H b = none ∨ (∃ p ∈ L, b = p.2) ∨ ∃ o xs, H b = some (.frz o (.lst xs))) (ok : HOk P w H s₁.heap)
    (alone : ∀ b, H b ≠ none → b = a ∨ ∃ p ∈ L, b = p.2)
    (notK : H a ≠ none → K.lookup a = none)
    (hs : sp [.ref a] H (fun v _ => v = .bl true) fun _ _ _ => False) :
    codeAny (model P w) callerA (.call (.ref fa) ⟨[.ref a], []⟩)
      (LawEnd s₁) s₁ := by
  have free : ∀ {b : Addr} {o : Obj}, s₁.heap.get? b = some o → (∀ xs n, o.data ≠ .seq xs n) → o.data ≠ .fields #[] → H b = none := by
    intro b o e d1 d2
    cases q : H b with
    | none => rfl
    | some u =>
      rcases alone b (by rw [q]; exact Option.some_ne_none u) with z | ⟨p, hp, z⟩
      · rw [z, ha] at e
        cases e
        exact absurd rfl (d1 _ _)
      · rw [z, (hT p hp).1] at e
        cases e
        exact absurd rfl d2
  have ns' : ∀ {b : Addr} {m : Str → Option Value},
      s₁.heap.Ns b m → (hidT s₁.heap H).Ns b m := by
    rintro b m ⟨o, es, ep, e, d, r⟩
    refine ⟨o, es, ep, hidT_get e (free e (fun xs n z => ?_) fun z => ?_), d, r⟩
    · rw [d] at z
      cases z
    · rw [d] at z
      cases z
  have kin : K.In (hidT s₁.heap H) := by
    intro b o e
    refine hidT_get (KX b o e) ?_
    cases q : H b with
    | none => rfl
    | some u =>
      rcases alone b (by rw [q]; exact Option.some_ne_none u) with z | ⟨p, hp, z⟩
      · have z2 := notK (by rw [← z, q]; exact Option.some_ne_none u)
        rw [z, z2] at e
        cases e
      · rw [z, (hT p hp).2.1] at e
        cases e
  have lim' : (hidT s₁.heap H).NoLimit := by
    obtain ⟨mc, h1, h2⟩ := hlim
    exact ⟨mc, ns' h1, h2⟩
  have M : Mod K mg (hidT s₁.heap H) :=
    ⟨kin, ns' hns, ⟨mb, ns' hb, hbb⟩, lim'⟩
  have TB : ∀ p ∈ L, TabB (hidT s₁.heap H) mg p.1 p.2 := fun p hp => by
    obtain ⟨eT, nT, C⟩ := hT p hp
    have notMain : mainGlobals ≠ p.2 := fun z => by
      obtain ⟨o, es, ep, e, d, _⟩ := hns
      rw [z, eT] at e
      cases e
      cases d
    refine ⟨?_, ?_, notMain⟩
    · obtain ⟨o, us, fl, tf, fg, tg, inF, tx, tt, e, r1, r2, r3, rest⟩ := C
      refine ⟨o, us, fl, tf, fg, tg, inF, tx, tt, hidT_get e (free e (fun xs n z => ?_) fun z => ?_), r1, r2, r3, rest⟩
      · rw [r2] at z
        cases z
      · rw [r2] at z
        cases z
        simp at r3
    · obtain ⟨bm, ob, m1, m2, m3, m4, m5, m6⟩ := hbm
      refine ⟨bm, ob, m1, m2, fun z => ?_, fun z => ?_, hidT_get m3 (free m3 (fun xs n z => ?_) fun z => ?_), m4, m5, m6⟩
      · obtain ⟨o, es, ep, e, d, _⟩ := hns
        rw [z, e] at m3
        cases m3
        rw [m6] at d
        cases d
      · rw [z, eT] at m3
        cases m3
        cases m6
      · rw [m6] at z
        cases z
      · rw [m6] at z
        cases z
  have none_in : ∀ b : Addr, b ∉ ([] : List Addr) := fun b => by simp
  have env : Env0 P w K mg (hidT s₁.heap H) callerA [] s₁ H :=
    ⟨rfl, M, fun b o e => of_hidT e, Nat.le_of_eq (hidT_size _ _),
      trivial, fun b z => absurd z (none_in b), ok, .of_eq hgen⟩
  refine codeAny_mono ((F _ kin (ns' hns) TB).go callerA [] s₁ H
    ⟨[.ref a], []⟩ [.ref a] [.ref a] _ _ hr rfl env
    (bind s₁ (.ref a)) (.cons rfl .nil) hs) ?_
  intro r s' h
  cases r with
  | error e => exact (h : False).elim
  | ok fl =>
    cases fl with
    | next => exact (h : False).elim
    | brk => exact (h : False).elim
    | cont => exact (h : False).elim
    | ret u =>
      obtain ⟨v, H', os, bare, un, ok', rv, q⟩ := h
      obtain rfl : v = .bl true := q
      obtain rfl : u = Value.bool true := rv
      have same : ∀ b o, (∀ p ∈ L, b ≠ p.2) → s₁.heap.get? b = some o → s'.heap.get? b = some o := by
        intro b o nb e
        cases q : H b with
        | none => exact un.keep b o e q (none_in b) (none_in b)
        | some u =>
          rcases hO b with z | ⟨p, hp, z⟩ | ⟨ob, xs, z⟩
          · rw [q] at z
            cases z
          · exact absurd z (nb p hp)
          · obtain ⟨e1, _⟩ := ok b _ z
            obtain ⟨e2, _⟩ := ok' b _ (un.frzs b ob _ z)
            rw [e] at e1
            cases e1
            exact e2
      have grown : ∀ p ∈ L, ∃ more, s'.heap.get? p.2 = some { cls := .none, data := .fields (#[] ++ more) } := fun p hp => by
        obtain ⟨more, z⟩ := un.tbls p.2 #[] (hHT p hp)
        exact ⟨more, ok' p.2 _ z⟩
      refine ⟨rfl, ⟨fun b o e => ?_, fun b o e => ?_⟩, os, bare⟩
      · by_cases nb : ∀ p ∈ L, b ≠ p.2
        · exact .inl (same b o nb e)
        · obtain ⟨p, hz⟩ := Classical.not_forall.mp nb
          obtain ⟨hp, e2⟩ := Classical.not_imp.mp hz
          obtain rfl := Classical.not_not.mp e2
          obtain ⟨more, g⟩ := grown p hp
          rw [(hT p hp).1] at e
          cases e
          exact .inr (.inl ⟨((hT p hp).2.2.tab (hT p hp).1).isCodeTable, rfl, #[], more, rfl, g⟩)
      · by_cases nb : ∀ p ∈ L, b ≠ p.2
        · exact ⟨o, same b o nb e⟩
        · obtain ⟨p, hz⟩ := Classical.not_forall.mp nb
          obtain ⟨hp, e2⟩ := Classical.not_imp.mp hz
          obtain rfl := Classical.not_not.mp e2
          obtain ⟨more, g⟩ := grown p hp
          exact ⟨_, g⟩

theorem law_goesY2 (KX : K.In s₁.heap)
    (hns : s₁.heap.Ns mainGlobals mg) (hb : s₁.heap.Ns builtinsNs mb)
    (hbb : ∀ y : Str, y ≠ "__name__" → mb y = bootBuiltins y)
    (hlim : s₁.heap.NoLimit) (hgen : s₁.gens = #[])
    (hT : ∀ p ∈ L, s₁.heap.get? p.2 = some tabE ∧ K.lookup p.2 = none ∧ PySem.W.CodeHd s₁.heap p.1 p.2)
    (hbm : ∃ (bm : Addr) (ob : Obj), mg "__builtins__" = some (.ref bm) ∧ bm ≠ builtinsNs ∧ s₁.heap.get? bm = some ob ∧ ob.cls = .type "module" ∧ ob.dict = some builtinsNs ∧ ob.data = .plain)
    (ha : s₁.heap.get? a =
      some { cls := .type "list", data := .seq vs.toArray })
    (hi : IntsAre vs ns) (hl : ns.length ≤ sizeLine)
    (hr : Room k callerA)
    (F : ∀ base : Heap, K.In base → base.Ns mainGlobals mg → (∀ p ∈ L, TabB base mg p.1 p.2) →
      FnG P w K mg base k fa fd [x] sp)
    (bind : ∀ (s : Shared) (u : Value),
      BindsTo s fd ⟨[u], []⟩ [(x, u)])
    (hs : ∀ H : Hp, (∀ p ∈ L, H p.2 = some (.tbl #[])) → SqL K H a (ns.map V.int) →
      sp [.ref a] H (fun v _ => v = .bl true) fun _ _ _ => False) :
    codeAny (model P w) callerA (.call (.ref fa) ⟨[.ref a], []⟩)
      (LawEnd s₁) s₁ := by
  have rv := vals_ints hi
  have aT : a ∉ L.map (·.2) := fun z => by
    obtain ⟨p, hp, e⟩ := List.mem_map.mp z
    have e2 := (hT p hp).1
    rw [e, ha] at e2
    cases e2
  have into : ∀ {p : Addr × Addr}, p ∈ L → p.2 ∈ L.map (·.2) := fun hp => List.mem_map.mpr ⟨_, hp, rfl⟩
  have out : ∀ {b : Addr}, b ∈ L.map (·.2) → ∃ p ∈ L, b = p.2 := fun h => by
    obtain ⟨p, hp, e⟩ := List.mem_map.mp h
    exact ⟨p, hp, e.symm⟩
  cases hk : K.lookup a with
  | some o =>
    have e := KX a o hk
    rw [ha] at e
    cases e
    refine law_goesY KX hns hb hbb hlim hgen hT hbm ha hr F bind
      (fun b => if b ∈ L.map (·.2) then some (.tbl #[]) else none) (fun p hp => if_pos (into hp)) (fun b => ?_) (fun b u z => ?_)
      (fun b z => ?_) (fun z => absurd (if_neg aT) z) (hs _ (fun p hp => if_pos (into hp)) ?_)
    · by_cases q : b ∈ L.map (·.2)
      · exact .inr (.inl (out q))
      · exact .inl (if_neg q)
    · by_cases q : b ∈ L.map (·.2)
      · have z' := (if_pos q).symm.trans z
        cases z'
        obtain ⟨p, hp, rfl⟩ := out q
        exact (hT p hp).1
      · have z' := (if_neg q).symm.trans z
        cases z'
    · by_cases q : b ∈ L.map (·.2)
      · exact .inr (out q)
      · exact absurd (if_neg q) z
    refine .inr ⟨_, vs.toArray, _, hk, rfl, rfl, rfl, ?_, by simpa using rv⟩
    rw [List.size_toArray, hi.length]
    exact hl
  | none =>
    have e1 : ∀ p ∈ L, ∀ {u v : Option HO}, (if p.2 = a then u else if p.2 ∈ L.map (·.2) then v else none) = v := fun p hp {u v} => by
      rw [if_neg (fun z => aT (by rw [← z]; exact into hp)), if_pos (into hp)]
    refine law_goesY KX hns hb hbb hlim hgen hT hbm ha hr F bind
      (fun b => if b = a then some (.frz { cls := .type "list", data := .seq vs.toArray } (.lst (ns.map V.int))) else if b ∈ L.map (·.2) then some (.tbl #[]) else none) (fun p hp => e1 p hp) (fun b => ?_)
      (fun b u z => ?_) (fun b z => ?_) (fun _ => hk)
      (hs _ (fun p hp => e1 p hp) (.inl (.inr ⟨_, if_pos rfl⟩)))
    · by_cases q : b = a
      · exact .inr (.inr ⟨_, _, if_pos q⟩)
      · by_cases q2 : b ∈ L.map (·.2)
        · exact .inr (.inl (out q2))
        · exact .inl ((if_neg q).trans (if_neg q2))
    · by_cases q : b = a
      · have z' := (if_pos q).symm.trans z
        cases z'
        subst q
        exact ⟨ha, by rw [List.length_map]; exact hl, vs, _, rv, ha⟩
      · by_cases q2 : b ∈ L.map (·.2)
        · have z' := ((if_neg q).trans (if_pos q2)).symm.trans z
          cases z'
          obtain ⟨p, hp, rfl⟩ := out q2
          exact (hT p hp).1
        · have z' := ((if_neg q).trans (if_neg q2)).symm.trans z
          cases z'
    · by_cases q : b = a
      · exact .inl q
      · by_cases q2 : b ∈ L.map (·.2)
        · exact .inr (out q2)
        · exact absurd ((if_neg q).trans (if_neg q2)) z
end

/-- the goal that the head leaves -/
theorem walk_ofY {l : PySem.W.OpenLaw} {n k : Nat} {q : Program}
    {loose : List Str} {XP : (Str → Option Value) → Heap → Prop}
    {YP : World → Heap → Prop} {d : DefRec}
    {K : Params → PySem.W.Frag} {sp : World → Sp} {x : Str} {Ts : List Addr}
    (hn : l.most = some n) (hn2 : n ≤ sizeLine)
    (hdf : d.params.defaults = []) (hr : Room k callerA)
    (hY : ∀ (w : World) (h : Heap), YP w h → (K w.params).In h ∧ ∀ T ∈ Ts, h.get? T = some tabE)
    (F : ∀ (w : World) (mg : Str → Option Value) (fa : Addr) (h : Heap),
      (K w.params).In h → h.Ns mainGlobals mg →
      mg d.name = some (.ref fa) →
      ∃ (fd : FuncData) (L : List (Addr × Addr)), (∀ p ∈ L, PySem.W.codeHdIn (K w.params) p.1 p.2 = true ∧ (K w.params).lookup p.2 = none) ∧ L.map (·.2) = Ts ∧
        (∀ (s : Shared) (u : Value), BindsTo s fd ⟨[u], []⟩ [(x, u)]) ∧
        ∀ base : Heap, (K w.params).In base → base.Ns mainGlobals mg → (∀ p ∈ L, TabB base mg p.1 p.2) →
          FnG l.prog w (K w.params) mg base k fa fd [x] (sp w))
    (hsp : ∀ (w : World) (H : Hp) (a : Addr) (ns : List Int),
      ns.length ≤ n → (∀ T ∈ Ts, H T = some (.tbl #[])) → SqL (K w.params) H a (ns.map V.int) →
      sp w [.ref a] H (fun v _ => v = .bl true) fun _ _ _ => False) :
    PySem.W.WalkO q loose XP YP l.row.toRowW d []
      (fun f vs => PySem.call f vs) := by
  refine Att.attach_call hn hdf ?_
  intro w s₀ s₁ mg mb fa o pm cd doc a vs ns G Y ho hd hcd hmg hobj hints hlen hg
  obtain ⟨KX, hT⟩ := hY w _ Y
  obtain ⟨fd, L, hC, hL, hb, hF⟩ := F w mg fa _ KX G.T.g hmg
  refine law_goesY2 KX G.T.g G.T.b G.T.builtins G.T.nolimit hg (L := L) (fun p hp => ⟨hT p.2 (hL ▸ List.mem_map.mpr ⟨p, hp, rfl⟩), (hC p hp).2, PySem.W.codeHd_of_K KX (hC p hp).1⟩) G.T.bmain hobj
    hints (Nat.le_trans hlen hn2) hr hF hb
    (fun H hO hS => hsp w H a ns hlen (fun T hT => ?_) hS)
  rw [← hL] at hT
  obtain ⟨p, hp, rfl⟩ := List.mem_map.mp hT
  exact hO p hp
end Vf

set_option Elab.async false
set_option linter.all false
set_option maxRecDepth 100000
set_option maxHeartbeats 4000000
/-! Own words: how much two rows begin alike; the least change between two texts. -/
namespace Vf
open PySem PySem.Spec PyProof.Rows L2
open TL (tl joinL tl_join join_eq)
/-- how many begin alike -/
def lcp : List Nat → List Nat → Nat
  | a :: x, b :: y => if a = b then lcp x y + 1 else 0
  | _, _ => 0
theorem lcp_le : ∀ x y : List Nat, lcp x y ≤ x.length ∧ lcp x y ≤ y.length
  | [], _ => ⟨Nat.zero_le _, Nat.zero_le _⟩
  | _ :: _, [] => ⟨Nat.zero_le _, Nat.zero_le _⟩
  | a :: x, b :: y => by
    have ih := lcp_le x y
    unfold lcp
    split
    · simp only [List.length_cons]
      omega
    · exact ⟨Nat.zero_le _, Nat.zero_le _⟩
/-- one turn of a count: there are i that are alike; the next is too, or not -/
theorem lcp_more {x y : List Nat} {i : Nat} (h : lcp x y = i + lcp (x.drop i) (y.drop i)) {a : Nat} (ex : x[i]? = some a) (ey : y[i]? = some a) : lcp x y = (i + 1) + lcp (x.drop (i + 1)) (y.drop (i + 1)) := by
  rw [drop_at ex, drop_at ey] at h
  have : lcp (a :: x.drop (i + 1)) (a :: y.drop (i + 1)) = lcp (x.drop (i + 1)) (y.drop (i + 1)) + 1 := if_pos rfl
  omega
theorem lcp_end {x y : List Nat} {i : Nat} (h : lcp x y = i + lcp (x.drop i) (y.drop i)) {a b : Nat} (ex : x[i]? = some a) (ey : y[i]? = some b) (ne : a ≠ b) : lcp x y = i := by
  rw [drop_at ex, drop_at ey] at h
  have : lcp (a :: x.drop (i + 1)) (b :: y.drop (i + 1)) = 0 := if_neg ne
  omega
theorem lcp_end' {x y : List Nat} {i : Nat} (h : lcp x y = i + lcp (x.drop i) (y.drop i)) (hi : ¬ (i < x.length ∧ i < y.length)) : lcp x y = i := by
  have a := (lcp_le (x.drop i) (y.drop i)).1
  have b := (lcp_le (x.drop i) (y.drop i)).2
  rw [List.length_drop] at a b
  omega
theorem lcp_take : ∀ (x y : List Nat) (i : Nat), i ≤ lcp x y → x.take i = y.take i
  | _, _, 0, _ => by simp
  | [], _, i + 1, h => absurd h (by simp [lcp])
  | _ :: _, [], i + 1, h => absurd h (by simp [lcp])
  | a :: x, b :: y, i + 1, h => by
    unfold lcp at h
    split at h
    · rename_i e
      rw [List.take_succ_cons, List.take_succ_cons, e, lcp_take x y i (by omega)]
    · omega
theorem take_lcp : ∀ (x y : List Nat) (i : Nat), i ≤ x.length → i ≤ y.length → x.take i = y.take i → i ≤ lcp x y
  | _, _, 0, _, _, _ => Nat.zero_le _
  | [], _, i + 1, h, _, _ => by simp at h
  | _ :: _, [], i + 1, _, h, _ => by simp at h
  | a :: x, b :: y, i + 1, h1, h2, h => by
    rw [List.take_succ_cons, List.take_succ_cons] at h
    obtain ⟨e, h⟩ := List.cons.inj h
    have := take_lcp x y i (by simpa using h1) (by simpa using h2) h
    unfold lcp
    rw [if_pos e]
    omega
/-- the begin of the least change, and how much is alike behind it -/
def begB (x y : List Nat) : Nat := lcp x y
def sameB (x y : List Nat) : Nat := lcp (x.drop (begB x y)).reverse (y.drop (begB x y)).reverse
theorem begB_le (x y : List Nat) : begB x y ≤ x.length ∧ begB x y ≤ y.length := lcp_le x y
theorem sameB_le (x y : List Nat) : begB x y + sameB x y ≤ x.length ∧ begB x y + sameB x y ≤ y.length := by
  have a := lcp_le (x.drop (begB x y)).reverse (y.drop (begB x y)).reverse
  have b := begB_le x y
  rw [List.length_reverse, List.length_reverse, List.length_drop, List.length_drop] at a
  unfold sameB
  omega
/-- b, e may be begin and end of a change that leads from x to y -/
def Leads (x y : List Nat) (b e : Nat) : Prop := b ≤ e ∧ e ≤ x.length ∧ b + (x.length - e) ≤ y.length ∧ x.take b = y.take b ∧ x.drop e = y.drop (y.length - (x.length - e))
theorem leads_beg {x y : List Nat} {b e : Nat} (h : Leads x y b e) : b ≤ begB x y := by
  obtain ⟨h1, h2, h3, h4, _⟩ := h
  exact take_lcp x y b (by omega) (by omega) h4
theorem rev_take_drop {x : List Nat} {b k : Nat} (h : b + k ≤ x.length) : (x.drop b).reverse.take k = (x.drop (x.length - k)).reverse := by
  rw [List.take_reverse, List.length_drop, List.drop_drop]
  congr 2
  omega
theorem leads_end {x y : List Nat} {e : Nat} (h : Leads x y (begB x y) e) : x.length - sameB x y ≤ e := by
  obtain ⟨h1, h2, h3, _, h5⟩ := h
  have := take_lcp (x.drop (begB x y)).reverse (y.drop (begB x y)).reverse (x.length - e) (by rw [List.length_reverse, List.length_drop]; omega) (by rw [List.length_reverse, List.length_drop]; omega) (by
    rw [rev_take_drop (by omega), rev_take_drop (by omega)]
    rw [show x.length - (x.length - e) = e by omega, h5])
  have : x.length - e ≤ sameB x y := this
  omega
theorem leads_all (x y : List Nat) : Leads x y (begB x y) (x.length - sameB x y) := by
  have a := begB_le x y
  have b := sameB_le x y
  refine ⟨by omega, by omega, by omega, lcp_take x y _ (Nat.le_refl _), ?_⟩
  have h := lcp_take (x.drop (begB x y)).reverse (y.drop (begB x y)).reverse (sameB x y) (Nat.le_refl _)
  rw [rev_take_drop (by omega), rev_take_drop (by omega)] at h
  rw [show x.length - (x.length - sameB x y) = sameB x y by omega]
  exact List.reverse_inj.mp h
theorem leads_whole (x y : List Nat) : Leads x y (begB x y) x.length := by
  have a := begB_le x y
  refine ⟨a.1, Nat.le_refl _, by omega, lcp_take x y _ (Nat.le_refl _), ?_⟩
  rw [Nat.sub_self, Nat.sub_zero, List.drop_length, List.drop_length]
end Vf

set_option Elab.async false
set_option linter.all false
set_option maxRecDepth 100000
set_option maxHeartbeats 4000000
/-! Own words: repr of a text too; a def whose lambdas' code is known; what tables and drawn bags keep. -/
namespace Vf
open PySem PySem.Spec PyProof.Rows L2
open LamX (CodeO TabS Tabs ExtN TabB)
/-- an object, or a text -/
def ShowV (v : V) : Prop := (∃ a, v = .ref a) ∨ ∃ x, v = .str x
theorem call_repr2 {X : Cx} (gd : X.A.guards = some []) (hu : X.A.units + 64 < cLine) :
    CallR X (.builtin "repr") (fun xs H Q => ∃ v d, xs = [v] ∧ ShowV v ∧ Dp X.K H v d ∧ OkD d ∧ Q (.str d.shown) H) := by
  intro pins s σ H xs us Q I r h
  obtain ⟨v, d, rfl, sv, hd, ok, q⟩ := h
  rcases sv with ⟨a, rfl⟩ | ⟨x, rfl⟩
  · exact call_repr gd hu pins s σ H [.ref a] us Q I r ⟨a, d, rfl, hd, ok, q⟩
  · cases hd
    cases r with
    | cons rv rn =>
      cases rn
      obtain ⟨t, rfl⟩ := rv
      exact PySem.P.repr_of_str ⟨.str _, H, I.tok _, ⟨_, rfl⟩, q⟩ ok.show
/-- two things alike, objects or texts -/
def spAlike2 (K : PySem.W.Frag) : Sp := fun vs H Q _ => ∃ (u v : V) (d : PyData), vs = [u, v] ∧ ShowV u ∧ ShowV v ∧ Dp K H u d ∧ Dp K H v d ∧ OkD d ∧ ∀ H', Same H H' → Q (.bl true) H'
/-- a def of the text whose code object stands at c -/
structure DefK (K : PySem.W.Frag) (mg : Str → Option Value) (x : Str) (st : Stmt) (ps : List Str) (c : Addr) : Prop where
  ex : ∃ (f : Addr) (oc : Value) (od an : Option Addr) (sl : Array (Option Value)) (kV dc pm ct : Value),
    K.lookup f = some ⟨oc, od, .func (PySem.W.fnOf x x (defArgs st) (defBody st) (defScope st) .none kV dc pm an (.ref c) ct), sl⟩ ∧
    PySem.W.codeIn K (.ref c) x = true ∧ PySem.W.keepIn K (.ref f) = true ∧ mg x = some (.ref f) ∧
    Binds K (PySem.W.fnOf x x (defArgs st) (defBody st) (defScope st) .none kV dc pm an (.ref c) ct) ps []
section
variable {P : Program} {w : World} {K : PySem.W.Frag} {mg : Str → Option Value} {base : Heap}
theorem fnG_ofK {x : Str} {st : Stmt} {f c : Addr} {oc : Value} {od an : Option Addr} {sl : Array (Option Value)} {kV dc pm ct : Value} {N ps : List Str} {k : Nat} {sp : Sp}
    (lk : K.lookup f = some ⟨oc, od, .func (PySem.W.fnOf x x (defArgs st) (defBody st) (defScope st) .none kV dc pm an (.ref c) ct), sl⟩) (hcd : PySem.W.codeIn K (.ref c) x = true) (S : FnScope N ps (defScope st))
    (many : ∀ vs H Q E, sp vs H Q E → vs.length = ps.length)
    (body : ∀ (A : Around) (outer : List Env) (s : Shared) (H : Hp) (vs : List V) (Q : VK) (E : XK),
      Room k (A.deeper (envOfC x (defScope st) s.heap.objs.size f (.ref c))) → A.guards = some [] → sp vs H Q E →
      ∃ t, PSs (cxOf CX0 P w K mg base N x (defScope st) f (.ref c) A outer s H E).nox (defBody st) t ∧ t { nx := fun _ H' => Q .non H', rt := Q } (start N vs) H) :
    FnG P w K mg base (k + 1) f (PySem.W.fnOf x x (defArgs st) (defBody st) (defScope st) .none kV dc pm an (.ref c) ct) ps sp := by
  refine ⟨many, fun A outer s H args us vs Q E hr hg e0 hb r hsp => ?_⟩
  have hlen := many _ _ _ _ hsp
  have KX : K.In s.heap := e0.mod.kin.keeps (fun b o e => (e0.bs b o e).1)
  have lim := e0.mod.nolimit.keeps (fun b o e => (e0.bs b o e).1)
  have kinds : ∀ y ∈ ps.zip us, (defScope st).names.lookup y.1 = some .local ∨
      ((defScope st).names.lookup y.1 = some .cell ∧ ((cellsFrom (s.heap.objs.size + 1) (defScope st).names []).lookup y.1).isSome = true) := by
    rintro ⟨n, v⟩ hy
    cases S.par n (List.of_mem_zip hy).1 with
    | inl q => exact .inl q
    | inr q => exact .inr ⟨q, PySem.W.cellsFrom_some _ _ _ (.inl q)⟩
  refine codeAny_call_function hr.depth (KX _ _ lk) rfl S.co S.gen rfl (PySem.W.codeRec_of KX hcd) (hb _ _ _ _ ?_)
  refine wpAny_newFunctionEnv_cells S.kind kinds (fun env he s1 x => ?_)
  subst he
  refine ⟨lim.keeps x.toInCall.keep, codeAny_func ?_⟩
  obtain ⟨t, ht, hq⟩ := body A outer s H vs Q E (hr.deeper _) hg hsp
  have I := inv_start (CX := CX0) (E := E) S hr.hd e0 hlen r x
  refine wpAny_mono (ht.nox.run [] s1 (start N vs) H _ I hq) (fun fl s' hs => ?_) (fun _ _ hs => hs)
  cases fl with
  | brk => exact (hs.choose_spec.choose_spec.2 : False).elim
  | cont => exact (hs.choose_spec.choose_spec.2 : False).elim
  | next =>
    obtain ⟨_, H', J, q⟩ := hs
    exact ⟨V.non, H', J.os, J.bare, J.base, J.hok, rfl, q⟩
  | ret u =>
    obtain ⟨v, _, H', J, rv, q⟩ := hs
    exact ⟨v, H', J.os, J.bare, J.base, J.hok, rv, q⟩
theorem calGOfK {x : Str} {st : Stmt} {N ps : List Str} {k : Nat} {sp : Sp} {c : Addr}
    (D : DefK K mg x st ps c) (S : FnScope N ps (defScope st)) (many : ∀ vs H Q E, sp vs H Q E → vs.length = ps.length)
    (body : ∀ (f : Addr) (A : Around) (outer : List Env) (s : Shared) (H : Hp) (vs : List V) (Q : VK) (E : XK),
      Room k (A.deeper (envOfC x (defScope st) s.heap.objs.size f (.ref c))) → A.guards = some [] → sp vs H Q E →
      ∃ t, PSs (cxOf CX0 P w K mg base N x (defScope st) f (.ref c) A outer s H E).nox (defBody st) t ∧ t { nx := fun _ H' => Q .non H', rt := Q } (start N vs) H) :
    CalG P w K mg base (k + 1) x sp := by
  obtain ⟨f, oc, od, an, sl, kV, dc, pm, ct, lk, hcd, kp, hm, hb⟩ := D.ex
  exact ⟨f, _, ps, fnG_ofK lk hcd S many (fun A o s H vs Q E hr h => body f A o s H vs Q E hr h), hm, kp, hb⟩
end
/-! ### what is kept where lambdas are made -/
section
variable {g : Bg} {H H1 H2 : Hp} {c e : Int} {T : List (Addr × Str)} {p : Addr} {o : HO}
theorem ExtN.tk' (x : ExtN H H1) : Tk H H1 := fun a xs h => x a _ h (fun ps z => by cases z)
theorem ExtN.lst (x : ExtN H H1) {a : Addr} {xs : List V} (h : H a = some (.lst xs)) : H1 a = some (.lst xs) := x a _ h (fun ps z => by cases z)
theorem Bag.ext (B : Bag H g c e) (x : ExtN H H1) : Bag H1 g c e := by
  obtain ⟨z, m, i, ns, h, h2, r⟩ := B.ex
  exact ⟨⟨z, m, i, ns, ExtN.lst x h, ExtN.lst x h2, r⟩, B.ne⟩
theorem Tabs.drawn (t : Tabs T H) (B : Bag H g c e) (D : Drawn g H H1 c e) : Tabs T H1 := fun q hq => by
  obtain ⟨ps, h, tri, k⟩ := t q hq
  obtain ⟨ob, hb⟩ := B.ob
  have keep : ∀ {a : Addr} {u : HO}, H a = some u → (∀ ys, u ≠ .lst ys) → H1 a = some u := fun {a u} ha n => D.fr a u (fun z => by
    rw [z, hb] at ha
    exact n _ (Option.some.inj ha).symm) ha
  refine ⟨ps, keep h (fun ys z => by cases z), tri, fun pos cv hc => ?_⟩
  obtain ⟨c1, e1, e2⟩ := k pos cv hc
  exact ⟨c1, e1, keep e2 (fun ys z => by unfold CodeO at z; cases z)⟩
theorem Tabs.same' (t : Tabs T H) (s : Same H H1) : Tabs T H1 := t.ext s
theorem Tabs.new' (t : Tabs T H) (n : H p = none) : Tabs T (upd H p o) := t.ext (same_new n)
end
end Vf

set_option Elab.async false
set_option linter.all false
set_option maxRecDepth 100000
set_option maxHeartbeats 4000000
/-! Own words: a text's signs in the other order; slices of texts as lists. -/
namespace Vf
open PySem PySem.Spec PyProof.Rows L2
open TL (tl)
def revS (x : Str) : Str := ⟨(tl x).reverse.toArray⟩
theorem tl_revS (x : Str) : tl (revS x) = (tl x).reverse := by
  show ((tl x).reverse.toArray).toList = _
  rw [List.toList_toArray]
theorem rev_is (x : Str) (u : Tok) : Txt.sliceBy x none none (-1, u) = revS x := by
  refine tl_inj ?_
  rw [tl_revS]
  refine (step_rev_list x u).trans ?_
  apply List.ext_getElem
  · simp [Str.length]
  · intro i h1 h2
    simp only [List.length_map, List.length_range] at h1
    have hs : x.length = x.cps.size := rfl
    have h3 : x.cps.size - 1 - i < x.cps.size := by
      rw [hs] at h1
      omega
    simp [List.getElem_reverse, Array.getD, hs, h3]
theorem pe_revS {X : Cx} {e : Expr} {te : TE} {k : Nat} {p1 p2 p3 pos : Pos} (he : PE X e te) :
    PE X (.Subscript e (.Slice none none (some (.UnaryOp .USub (.Constant (.int 1) k p1) p2)) p3) pos) (fun τ G Q => te τ G fun v G1 => ∃ z, v = .str z ∧ z.length ≤ sizeLine ∧ Q (.str (revS z)) G1) := by
  refine ⟨fun pins s τ G Q I h => Subscript_ (thn (he.run pins s τ G _ I h) fun u t ⟨v, G1, J, rv, z, ev, lz, q⟩ => ?_)⟩
  subst ev
  obtain ⟨tk, rfl⟩ := rv
  have step : PO X (some (.UnaryOp .USub (.Constant (.int 1) k p1) p2)) (tPart (tUn (rU fun i => .int (-i)) (tC (.int 1)))) := po_some (pe_un un_neg pe_int)
  refine wpAny_Slice (thn (po_none.run pins t τ G1 (fun o F => o = none ∧ F = G1) J ⟨rfl, rfl⟩) fun a t1 ⟨oa, F1, J1, pa, ea, fa⟩ => ?_)
  subst ea fa
  refine thn (po_none.run pins t1 τ F1 (fun o F => o = none ∧ F = F1) J1 ⟨rfl, rfl⟩) fun b t2 ⟨ob, F2, J2, pb, eb, fb⟩ => ?_
  subst eb fb
  refine thn (step.run pins t2 τ F2 (fun o F => o = some (-1) ∧ F = F2) J2 ⟨1, rfl, -1, rfl, rfl, rfl⟩) fun c t3 ⟨oc, F3, J3, pc, ec, fc⟩ => ?_
  subst ec fc
  obtain ⟨l, rfl, el⟩ := IsPart.raw pa
  obtain ⟨m, rfl, em⟩ := IsPart.raw pb
  obtain ⟨n, rfl, en⟩ := IsPart.raw pc
  obtain rfl : l = none := by cases l <;> simp at el <;> rfl
  obtain rfl : m = none := by cases m <;> simp at em <;> rfl
  obtain ⟨n1, rfl⟩ : ∃ n1, n = some (-1, n1) := by
    cases n with
    | none => simp at en
    | some q =>
      obtain ⟨i, w⟩ := q
      simp at en
      subst en
      exact ⟨w, rfl⟩
  have c0 : ¬ ((((some ((-1 : Int), n1)).map (·.1)).getD 1 == 1 && (slicePicked z none none (some (-1, n1))).length == z.length) = true) := by
    rw [show ((((some ((-1 : Int), n1)).map (·.1)).getD 1 == 1)) = false from rfl]
    simp
  have er := rev_is z n1
  unfold Txt.sliceBy at er
  rw [if_neg c0] at er
  have J4 : Inv X pins τ F3 { t3 with heap := t3.heap.push { cls := .type "slice", data := .fields #[partValue none, partValue none, partValue (some (-1, n1))] } } := J3.kept (t' := t3.toks) fun b ob w => Heap.get?_push_of_some _ w
  refine tail_any (ops := [.str z tk, .ref t3.heap.objs.size]) (typeIs_str _ _ _) PySem.F.slot_str_getitem.lookup ?_ (by with_unfolding_all rfl)
  refine wpAny_getItem_str_slice (l := none) (u := none) (st := some (-1, n1)) ⟨_, Heap.get?_push_size _ rfl, rfl, rfl⟩ rfl ?_
  unfold sliceMade
  rw [if_neg c0, er]
  have lr : (revS z).length ≤ sizeLine := by
    rw [str_len, tl_revS, List.length_reverse, ← str_len]
    exact lz
  exact ⟨lr, .str _, F3, J4.tok _, ⟨_, rfl⟩, q⟩
/-! ### slices as lists -/
theorem tl_cutS (z : Str) (lo hi : Option Int) : tl (cutS z lo hi) = ((tl z).drop (HT.sIx z.length 0 lo)).take (HT.sIx z.length z.length hi - HT.sIx z.length 0 lo) := by
  show (List.toArray _).toList = _
  rw [List.toList_toArray]
theorem sIx_nat (n d : Nat) {i : Nat} : HT.sIx n d (some (i : Int)) = min i n := by
  show (if (i : Int) < 0 then ((i : Int) + n).toNat else min (i : Int).toNat n) = _
  rw [if_neg (by omega)]
  rfl
theorem tl_from (z : Str) (i : Nat) : tl (cutS z (some (i : Int)) none) = (tl z).drop i := by
  rw [tl_cutS, sIx_nat]
  show ((tl z).drop (min i z.length)).take (z.length - min i z.length) = _
  rw [str_len]
  by_cases h : i ≤ (tl z).length
  · rw [Nat.min_eq_left h]
    exact List.take_of_length_le (by rw [List.length_drop]; omega)
  · rw [Nat.min_eq_right (by omega), List.drop_of_length_le (by omega), List.drop_of_length_le (by omega)]
    simp
theorem tl_upto (z : Str) (i : Nat) : tl (cutS z none (some (i : Int))) = (tl z).take i := by
  rw [tl_cutS, sIx_nat]
  show ((tl z).drop 0).take (min i z.length - 0) = _
  rw [str_len, List.drop_zero, Nat.sub_zero]
  by_cases h : i ≤ (tl z).length
  · rw [Nat.min_eq_left h]
  · rw [Nat.min_eq_right (by omega), List.take_of_length_le (by omega), List.take_of_length_le (by omega)]
theorem tl_part (z : Str) (i j : Nat) (hj : j ≤ z.length) : tl (cutS z (some (i : Int)) (some (j : Int))) = ((tl z).take j).drop i := by
  rw [tl_cutS, sIx_nat, sIx_nat]
  rw [str_len] at hj ⊢
  rw [Nat.min_eq_left hj, List.drop_take]
  by_cases h : i ≤ (tl z).length
  · rw [Nat.min_eq_left h]
  · rw [Nat.min_eq_right (by omega), List.drop_of_length_le (by omega), List.drop_of_length_le (by omega)]
    simp
end Vf

set_option Elab.async false
set_option linter.all false
set_option maxRecDepth 100000
set_option maxHeartbeats 4000000
/-! Own words: where the words of a text end, as a function of its signs. -/
namespace Vf
open PySem PySem.Spec PyProof.Rows L2 PySem.Builtin PySem.Builtin.Str PySem.StrLaws
/-! ### the first place of a text in a text -/
def HitAt (x y : Str) (hi k : Nat) : Prop := k + y.length ≤ hi ∧ subAt x y k = true
theorem occ_full (x y : Str) (hi : Nat) : ∀ (l : List Nat) (st : Array Nat × Nat), st.fst.size = 1 → (forIn l st (occBody x y hi 1)).run.fst = st.fst
  | [], st, h => rfl
  | a :: l, st, h => by
    rw [List.forIn_cons]
    unfold occBody
    rw [if_neg (fun z => by
      have := z.1.1.1
      omega)]
    exact occ_full x y hi l _ h
theorem occ_first (x y : Str) (hi : Nat) : ∀ (l : List Nat) (free : Nat), (∀ i ∈ l, free ≤ i) →
    ((forIn l ((#[] : Array Nat), free) (occBody x y hi 1)).run.fst = #[] ∧ ∀ i ∈ l, ¬ HitAt x y hi i) ∨
    ∃ k l1 l2, l = l1 ++ k :: l2 ∧ (forIn l ((#[] : Array Nat), free) (occBody x y hi 1)).run.fst = #[k] ∧ HitAt x y hi k ∧ ∀ i ∈ l1, ¬ HitAt x y hi i
  | [], free, _ => .inl ⟨rfl, by simp⟩
  | a :: l, free, hf => by
    have ha : free ≤ a := hf a (List.mem_cons_self ..)
    rw [List.forIn_cons]
    by_cases hc : HitAt x y hi a
    · refine .inr ⟨a, [], l, rfl, ?_, hc, by simp⟩
      unfold occBody
      rw [if_pos ⟨⟨⟨by simp, ha⟩, hc.1⟩, hc.2⟩]
      exact occ_full x y hi l _ rfl
    · have e : occBody x y hi 1 a ((#[] : Array Nat), free) = pure (ForInStep.yield ((#[] : Array Nat), free)) := by
        unfold occBody
        rw [if_neg fun z => hc ⟨z.1.2, z.2⟩]
      rw [e]
      rcases occ_first x y hi l free (fun i h => hf i (List.mem_cons_of_mem _ h)) with ⟨h1, h2⟩ | ⟨k, l1, l2, h1, h2, h3, h4⟩
      · refine .inl ⟨h1, fun i hi' => ?_⟩
        rcases List.mem_cons.mp hi' with rfl | hm
        · exact hc
        · exact h2 i hm
      · refine .inr ⟨k, a :: l1, l2, by rw [h1]; rfl, h2, h3, fun i hi' => ?_⟩
        rcases List.mem_cons.mp hi' with rfl | hm
        · exact hc
        · exact h4 i hm
theorem from_nat (n i : Nat) : fromIndex n (i : Int) = i := by
  unfold fromIndex
  rw [if_neg (by omega)]
  omega
theorem find3_spec (x y : Str) (i : Nat) :
    (∃ k : Nat, Txt.find3 x y (i : Int) = (k : Int) ∧ i ≤ k ∧ HitAt x y x.length k ∧ ∀ j, i ≤ j → j < k → ¬ HitAt x y x.length j) ∨
    (Txt.find3 x y (i : Int) = -1 ∧ ∀ j, i ≤ j → ¬ HitAt x y x.length j) := by
  unfold Txt.find3
  rw [from_nat, occ_eq]
  have mem : ∀ j, j ∈ List.range' i (x.length + 1 - i) ↔ i ≤ j ∧ j ≤ x.length := fun j => by
    rw [List.mem_range'_1]
    omega
  have out : ∀ j, HitAt x y x.length j → j ≤ x.length := fun j h => Nat.le_trans (Nat.le_add_right _ _) h.1
  rcases occ_first x y x.length (List.range' i (x.length + 1 - i)) i (fun j h => ((mem j).mp h).1) with ⟨h1, h2⟩ | ⟨k, l1, l2, h1, h2, h3, h4⟩
  · rw [h1]
    exact .inr ⟨rfl, fun j hj h => h2 j ((mem j).mpr ⟨hj, out j h⟩) h⟩
  · rw [h2]
    have hk : k ∈ List.range' i (x.length + 1 - i) := by
      rw [h1]
      simp
    refine .inl ⟨k, rfl, ((mem k).mp hk).1, h3, fun j hj hjk h => ?_⟩
    have hm := (mem j).mpr ⟨hj, out j h⟩
    rw [h1] at hm
    rcases List.mem_append.mp hm with q | q
    · exact h4 j q h
    · have ps : (l1 ++ k :: l2).Pairwise (· < ·) := by
        rw [← h1]
        exact List.pairwise_lt_range'
      rcases List.mem_cons.mp q with q | q
      · omega
      · have := (List.pairwise_cons.mp (List.pairwise_append.mp ps).2.1).1 j q
        omega

/-! ### runs -/
def digC (c : Nat) : Bool := decide (48 ≤ c) && decide (c ≤ 57)
def letC (c : Nat) : Bool := (decide (97 ≤ c) && decide (c ≤ 122)) || ((decide (65 ≤ c) && decide (c ≤ 90)) || decide (c = 95))
def wrdC (c : Nat) : Bool := letC c || digC c
def notNl (c : Nat) : Bool := !decide (c = 10)
def runE (g : Nat → Bool) (L : List Nat) (i : Nat) : Nat := i + ((L.drop i).takeWhile g).length
theorem run_step {g : Nat → Bool} {L : List Nat} {i c : Nat} (h : L[i]? = some c) (hg : g c = true) : runE g L i = runE g L (i + 1) := by
  unfold runE
  rw [drop_at h, List.takeWhile_cons, if_pos hg, List.length_cons]
  omega
theorem run_stop {g : Nat → Bool} {L : List Nat} {i c : Nat} (h : L[i]? = some c) (hg : g c = false) : runE g L i = i := by
  unfold runE
  rw [drop_at h, List.takeWhile_cons, hg]
  rfl
theorem run_end {g : Nat → Bool} {L : List Nat} {i : Nat} (h : L.length ≤ i) : runE g L i = i := by
  unfold runE
  rw [List.drop_eq_nil_iff.mpr h]
  rfl
theorem run_le {g : Nat → Bool} {L : List Nat} {i : Nat} (h : i ≤ L.length) : runE g L i ≤ L.length := by
  unfold runE
  have h1 := (List.takeWhile_sublist (l := L.drop i) g).length_le
  rw [List.length_drop] at h1
  omega
theorem run_ge (g : Nat → Bool) (L : List Nat) (i : Nat) : i ≤ runE g L i := Nat.le_add_right _ _
theorem run_gt {g : Nat → Bool} {L : List Nat} {i c : Nat} (h : L[i]? = some c) (hg : g c = true) : i < runE g L i := by
  rw [run_step h hg]
  exact run_ge g L (i + 1)
/-! ### words -/
def numE (L : List Nat) (i : Nat) : Nat :=
  if L[runE digC L i]? = some 46 then
    (if runE digC L (runE digC L i + 1) > runE digC L i + 1 then runE digC L (runE digC L i + 1) else runE digC L i)
  else runE digC L i
def escC (c : Nat) : Bool := decide (c = 34) || (decide (c = 92) || (decide (c = 110) || decide (c = 116)))
/-- behind the mark that opens a quote -/
def quoE : List Nat → Nat → Option Nat
  | [], _ => none
  | c :: r, i => if c = 34 then some (i + 1) else if c = 10 then none else if c = 92 then
      (match r with
      | [] => none
      | d :: q => if escC d then quoE q (i + 2) else none)
    else quoE r (i + 1)
def clsE (t y : Str) (i : Nat) : Option Nat := if Txt.find3 t y (i : Int) < 0 then none else some ((Txt.find3 t y (i : Int)).toNat + y.length)
def twoL : List (List Nat) := [[61, 61], [33, 61], [60, 61], [62, 61], [45, 62]]
def oneL : List Nat := [40, 41, 91, 93, 123, 125, 44, 59, 58, 46, 61, 60, 62, 43, 45, 42, 47, 94]
def wrdE (t : Str) (i : Nat) : Option Nat :=
  match t.cps.toList[i]? with
  | none => none
  | some c =>
    if letC c then some (runE wrdC t.cps.toList i)
    else if digC c then some (numE t.cps.toList i)
    else if c = 34 then quoE (t.cps.toList.drop (i + 1)) (i + 1)
    else if c = 39 then (if (t.cps.toList.drop i).take 3 = [39, 39, 39] then clsE t "'''" (i + 3) else none)
    else if c = 35 then some (runE notNl t.cps.toList i)
    else if (t.cps.toList.drop i).take 2 = [60, 42] then clsE t "*>" (i + 2)
    else if (t.cps.toList.drop i).take 2 ∈ twoL then some (i + 2)
    else if c ∈ oneL then some (i + 1) else none
theorem quo_in : ∀ (n : Nat) (r : List Nat) (i e : Nat), r.length ≤ n → quoE r i = some e → i < e ∧ e ≤ i + r.length
  | _, [], i, e, _, h => by
    unfold quoE at h
    cases h
  | 0, c :: r, i, e, hn, _ => absurd hn (by simp)
  | n + 1, c :: r, i, e, hn, h => by
    rw [List.length_cons] at hn ⊢
    unfold quoE at h
    split at h
    · cases h
      omega
    · split at h
      · cases h
      · split at h
        · cases r with
          | nil => cases h
          | cons d q =>
            have h' : (if escC d then quoE q (i + 2) else none) = some e := h
            rw [List.length_cons] at hn ⊢
            split at h'
            · have := quo_in n q (i + 2) e (by omega) h'
              omega
            · cases h'
        · have := quo_in n r (i + 1) e (by omega) h
          omega
theorem cls_in {t y : Str} {i e : Nat} (h : clsE t y i = some e) : i + y.length ≤ e ∧ e ≤ t.length := by
  unfold clsE at h
  rcases find3_spec t y i with ⟨k, h1, h2, h3, _⟩ | ⟨h1, _⟩
  · rw [h1, if_neg (by omega)] at h
    cases h
    have := h3.1
    exact ⟨by omega, by omega⟩
  · rw [h1] at h
    cases h
theorem len_at {L : List Nat} {i c : Nat} (h : L[i]? = some c) : i < L.length := (List.getElem?_eq_some_iff.mp h).1
theorem take_len {L l : List Nat} {i n : Nat} (h : (L.drop i).take n = l) (hl : l.length = n) (h0 : 0 < n) : i + n ≤ L.length := by
  have := congrArg List.length h
  rw [List.length_take, List.length_drop, hl] at this
  omega
theorem num_in {L : List Nat} {i c : Nat} (h : L[i]? = some c) (hd : digC c = true) : i < numE L i ∧ numE L i ≤ L.length := by
  have h1 := run_gt h hd
  have h2 := run_le (g := digC) (Nat.le_of_lt (len_at h))
  unfold numE
  split
  · rename_i q
    have h3 := run_le (g := digC) (i := runE digC L i + 1) (len_at q)
    split <;> omega
  · omega
theorem wrd_in {t : Str} {i e : Nat} (h : wrdE t i = some e) : i < e ∧ e ≤ t.length := by
  have hL : t.length = t.cps.toList.length := by simp [Str.length]
  rw [hL]
  unfold wrdE at h
  split at h
  · cases h
  · rename_i c hc
    have hl := len_at hc
    split at h
    · rename_i q
      cases h
      exact ⟨run_gt hc (by unfold wrdC; rw [q] <;> rfl), run_le (Nat.le_of_lt hl)⟩
    · split at h
      · rename_i q
        cases h
        exact num_in hc q
      · split at h
        · have := quo_in _ _ _ _ (Nat.le_refl _) h
          rw [List.length_drop] at this
          omega
        · split at h
          · split at h
            · have := cls_in h
              omega
            · cases h
          · split at h
            · rename_i q
              cases h
              refine ⟨run_gt hc ?_, run_le (Nat.le_of_lt hl)⟩
              rw [q] <;> rfl
            · split at h
              · have := cls_in h
                omega
              · split at h
                · rename_i q
                  cases h
                  have q2 : i + 2 ≤ t.cps.toList.length := by
                    have all : ∀ l ∈ twoL, l.length = 2 := by decide
                    exact take_len rfl (all _ q) (by decide)
                  omega
                · split at h
                  · cases h
                    omega
                  · cases h
end Vf

set_option Elab.async false
set_option linter.all false
set_option maxRecDepth 100000
set_option maxHeartbeats 4000000
namespace Lw
open PySem PySem.Spec PyProof.Rows L2 Vf
open C8 (Cal pe_c pe_gc CalAt)
def topS (i : Nat) : Stmt := PySem.Challenge.pw_leastlaid_k04_words_that_would_be_glued.main.body.getD i (.Pass ⟨0, 0, 0, 0⟩)
abbrev s_p_line_end : Stmt := topS 6
theorem sc_p_line_end : FnScope ["text", "begin", "end"] ["text", "begin"] (defScope s_p_line_end) := ⟨rfl, rfl, rfl, by decide +kernel, rfl, by decide +kernel, by decide +kernel⟩
abbrev s_p_run_end : Stmt := topS 7
theorem sc_p_run_end : FnScope ["text", "begin", "signs", "end"] ["text", "begin", "signs"] (defScope s_p_run_end) := ⟨rfl, rfl, rfl, by decide +kernel, rfl, by decide +kernel, by decide +kernel⟩
abbrev s_p_number_end : Stmt := topS 8
theorem sc_p_number_end : FnScope ["text", "begin", "end", "far"] ["text", "begin"] (defScope s_p_number_end) := ⟨rfl, rfl, rfl, by decide +kernel, rfl, by decide +kernel, by decide +kernel⟩
abbrev s_p_quote_end : Stmt := topS 9
theorem sc_p_quote_end : FnScope ["text", "begin", "at"] ["text", "begin"] (defScope s_p_quote_end) := ⟨rfl, rfl, rfl, by decide +kernel, rfl, by decide +kernel, by decide +kernel⟩
abbrev s_p_closed_end : Stmt := topS 10
theorem sc_p_closed_end : FnScope ["text", "begin", "opening", "closing", "end"] ["text", "begin", "opening", "closing"] (defScope s_p_closed_end) := ⟨rfl, rfl, rfl, by decide +kernel, rfl, by decide +kernel, by decide +kernel⟩
abbrev s_p_sign_end : Stmt := topS 11
theorem sc_p_sign_end : FnScope ["text", "begin", "sign"] ["text", "begin"] (defScope s_p_sign_end) := ⟨rfl, rfl, rfl, by decide +kernel, rfl, by decide +kernel, by decide +kernel⟩
abbrev s_p_word_at : Stmt := topS 12
theorem sc_p_word_at : FnScope ["text", "begin", "end"] ["text", "begin"] (defScope s_p_word_at) := ⟨rfl, rfl, rfl, by decide +kernel, rfl, by decide +kernel, by decide +kernel⟩
abbrev s_p_place_of : Stmt := topS 14
theorem sc_p_place_of : FnScope ["text", "index", "begin"] ["text", "index"] (defScope s_p_place_of) := ⟨rfl, rfl, rfl, by decide +kernel, rfl, by decide +kernel, by decide +kernel⟩
abbrev s_p_behind_fault : Stmt := topS 15
theorem sc_p_behind_fault : FnScope ["text", "at", "reason"] ["text", "at", "reason"] (defScope s_p_behind_fault) := ⟨rfl, rfl, rfl, by decide +kernel, rfl, by decide +kernel, by decide +kernel⟩
abbrev s_p_cut : Stmt := topS 16
theorem sc_p_cut : FnScope ["text", "tokens", "faults", "at", "kind", "end"] ["text"] (defScope s_p_cut) := ⟨rfl, rfl, rfl, by decide +kernel, rfl, by decide +kernel, by decide +kernel⟩
abbrev s_p_glued : Stmt := topS 17
theorem sc_p_glued : FnScope ["one", "other", "token"] ["one", "other"] (defScope s_p_glued) := ⟨rfl, rfl, rfl, by decide +kernel, rfl, by decide +kernel, by decide +kernel⟩
abbrev s_l_bag : Stmt := topS 19
theorem sc_l_bag : FnScope ["_law_script", "_law_cell"] ["_law_script"] (defScope s_l_bag) := ⟨rfl, rfl, rfl, by decide +kernel, rfl, by decide +kernel, by decide +kernel⟩
abbrev s_l_take : Stmt := topS 20
theorem sc_l_take : FnScope ["_law_bag_here", "_law_many", "_law_cell", "_law_stirred", "_law_value", "_law_begin", "_law_second"] ["_law_bag_here", "_law_many"] (defScope s_l_take) := ⟨rfl, rfl, rfl, by decide +kernel, rfl, by decide +kernel, by decide +kernel⟩
abbrev s_l_one : Stmt := topS 21
theorem sc_l_one : FnScope ["_law_bag_here", "_law_things"] ["_law_bag_here", "_law_things"] (defScope s_l_one) := ⟨rfl, rfl, rfl, by decide +kernel, rfl, by decide +kernel, by decide +kernel⟩
abbrev s_l_keywords : Stmt := topS 22
theorem sc_l_keywords : FnScope [] [] (defScope s_l_keywords) := ⟨rfl, rfl, rfl, by decide +kernel, rfl, by decide +kernel, by decide +kernel⟩
abbrev s_l_name : Stmt := topS 23
theorem sc_l_name : FnScope ["_law_bag_here", "_law_letters", "_law_word", "_law_turn"] ["_law_bag_here"] (defScope s_l_name) := ⟨rfl, rfl, rfl, by decide +kernel, rfl, by decide +kernel, by decide +kernel⟩
abbrev s_l_atom : Stmt := topS 24
theorem sc_l_atom : FnScope ["_law_bag_here", "_law_way", "_law_quotes"] ["_law_bag_here"] (defScope s_l_atom) := ⟨rfl, rfl, rfl, by decide +kernel, rfl, by decide +kernel, by decide +kernel⟩
abbrev s_l_bare_word : Stmt := topS 25
theorem sc_l_bare_word : FnScope ["_law_bag_here", "_law_signs", "_law_some"] ["_law_bag_here"] (defScope s_l_bare_word) := ⟨rfl, rfl, rfl, by decide +kernel, rfl, by decide +kernel, by decide +kernel⟩
abbrev s_l_alike : Stmt := topS 26
theorem sc_l_alike : FnScope ["_law_found", "_law_due"] ["_law_found", "_law_due"] (defScope s_l_alike) := ⟨rfl, rfl, rfl, by decide +kernel, rfl, by decide +kernel, by decide +kernel⟩
abbrev s_l_is_letter : Stmt := topS 27
theorem sc_l_is_letter : FnScope ["_law_sign"] ["_law_sign"] (defScope s_l_is_letter) := ⟨rfl, rfl, rfl, by decide +kernel, rfl, by decide +kernel, by decide +kernel⟩
abbrev s_l_run : Stmt := topS 28
theorem sc_l_run : FnScope ["_law_text", "_law_at", "_law_is_good"] ["_law_text", "_law_at", "_law_is_good"] (defScope s_l_run) := ⟨rfl, rfl, rfl, by decide +kernel, rfl, by decide +kernel, by decide +kernel⟩
abbrev s_l_is_digit : Stmt := topS 29
theorem sc_l_is_digit : FnScope ["_law_sign"] ["_law_sign"] (defScope s_l_is_digit) := ⟨rfl, rfl, rfl, by decide +kernel, rfl, by decide +kernel, by decide +kernel⟩
abbrev s_l_quote_end : Stmt := topS 30
theorem sc_l_quote_end : FnScope ["_law_text", "_law_at"] ["_law_text", "_law_at"] (defScope s_l_quote_end) := ⟨rfl, rfl, rfl, by decide +kernel, rfl, by decide +kernel, by decide +kernel⟩
abbrev s_l_word_end : Stmt := topS 31
theorem sc_l_word_end : FnScope ["_law_text", "_law_at", "_law_sign", "_law_end", "_law_more"] ["_law_text", "_law_at"] (defScope s_l_word_end) := ⟨rfl, rfl, rfl, by decide +kernel, rfl, by decide +kernel, by decide +kernel⟩
abbrev s_l_cut : Stmt := topS 32
theorem sc_l_cut : FnScope ["_law_text", "_law_found", "_law_at", "_law_end"] ["_law_text"] (defScope s_l_cut) := ⟨rfl, rfl, rfl, by decide +kernel, rfl, by decide +kernel, by decide +kernel⟩
abbrev s_l_do_part : Stmt := topS 33
theorem sc_l_do_part : FnScope ["_law_one_here", "_law_other"] ["_law_one_here", "_law_other"] (defScope s_l_do_part) := ⟨rfl, rfl, rfl, by decide +kernel, rfl, by decide +kernel, by decide +kernel⟩
abbrev s_p_law : Stmt := topS 34
theorem sc_p_law : FnScope ["_law_script", "_law_bag_here", "_law_turn", "_law_one_here", "_law_other"] ["_law_script"] (defScope s_p_law) := ⟨rfl, rfl, rfl, by decide +kernel, rfl, by decide +kernel, by decide +kernel⟩
def tp_KEYWORDS : List Str := ["let", "set", "give", "if", "else", "while", "for", "in", "def", "fn", "and", "or", "not", "true", "false", "none"]
def tp_ESCAPES : List Str := ["\\\"", "\\\\", "\\n", "\\t"]
def tp_SIGNS : List Str := ["==", "!=", "<=", ">=", "->", "(", ")", "[", "]", "{", "}", ",", ";", ":", ".", "=", "<", ">", "+", "-", "*", "/", "^"]
structure Txt (K : PySem.W.Frag) (mg : Str → Option Value) (w : World) : Prop where
  d_p_line_end : DefIn K mg "line_end" s_p_line_end ["text", "begin"]
  d_p_run_end : DefIn K mg "_run_end" s_p_run_end ["text", "begin", "signs"]
  d_p_number_end : DefIn K mg "_number_end" s_p_number_end ["text", "begin"]
  d_p_quote_end : DefIn K mg "_quote_end" s_p_quote_end ["text", "begin"]
  d_p_closed_end : DefIn K mg "_closed_end" s_p_closed_end ["text", "begin", "opening", "closing"]
  d_p_sign_end : DefIn K mg "_sign_end" s_p_sign_end ["text", "begin"]
  d_p_word_at : DefIn K mg "word_at" s_p_word_at ["text", "begin"]
  d_p_place_of : DefIn K mg "place_of" s_p_place_of ["text", "index"]
  d_p_behind_fault : DefIn K mg "_behind_fault" s_p_behind_fault ["text", "at", "reason"]
  d_p_cut : DefIn K mg "cut" s_p_cut ["text"]
  d_p_glued : DefIn K mg "glued" s_p_glued ["one", "other"]
  d_l_bag : DefIn K mg "_law_bag" s_l_bag ["_law_script"]
  d_l_take : DefIn K mg "_law_take" s_l_take ["_law_bag_here", "_law_many"]
  d_l_one : DefIn K mg "_law_one" s_l_one ["_law_bag_here", "_law_things"]
  d_l_keywords : DefIn K mg "_law_keywords" s_l_keywords []
  d_l_name : DefIn K mg "_law_name" s_l_name ["_law_bag_here"]
  d_l_atom : DefIn K mg "_law_atom" s_l_atom ["_law_bag_here"]
  d_l_bare_word : DefIn K mg "_law_bare_word" s_l_bare_word ["_law_bag_here"]
  d_l_alike : DefIn K mg "_law_alike" s_l_alike ["_law_found", "_law_due"]
  d_l_is_letter : DefIn K mg "_law_is_letter" s_l_is_letter ["_law_sign"]
  d_l_run : DefIn K mg "_law_run" s_l_run ["_law_text", "_law_at", "_law_is_good"]
  d_l_is_digit : DefIn K mg "_law_is_digit" s_l_is_digit ["_law_sign"]
  d_l_quote_end : DefIn K mg "_law_quote_end" s_l_quote_end ["_law_text", "_law_at"]
  d_l_word_end : DefIn K mg "_law_word_end" s_l_word_end ["_law_text", "_law_at"]
  d_l_cut : DefIn K mg "_law_cut" s_l_cut ["_law_text"]
  d_l_do_part : DefIn K mg "_law_do_part" s_l_do_part ["_law_one_here", "_law_other"]
  d_p_law : DefIn K mg "law" s_p_law ["_law_script"]
  n_abs : mg "abs" = none
  n_int : mg "int" = none
  n_len : mg "len" = none
  n_range : mg "range" = none
  n_tuple : mg "tuple" = none
  n_repr : mg "repr" = none
  g_LETTERS : ∃ u, mg "LETTERS" = some u ∧ RelV (.str "ABCDEFGHIJKLMNOPQRSTUVWXYZ_abcdefghijklmnopqrstuvwxyz") u
  g_DIGITS : ∃ u, mg "DIGITS" = some u ∧ RelV (.str "0123456789") u
  t_KEYWORDS : ∃ a, mg "KEYWORDS" = some (.ref a) ∧ ∀ H : Hp, SqT K H a (tp_KEYWORDS.map V.str)
  t_ESCAPES : ∃ a, mg "ESCAPES" = some (.ref a) ∧ ∀ H : Hp, SqT K H a (tp_ESCAPES.map V.str)
  t_SIGNS : ∃ a, mg "SIGNS" = some (.ref a) ∧ ∀ H : Hp, SqT K H a (tp_SIGNS.map V.str)
section
variable {P : Program} {w : World} {K : PySem.W.Frag} {mg : Str → Option Value} {base : Heap}

/-! the side of an operation; one step of a reading -/
local macro_rules | `(tactic| walk_at "side") => `(tactic| first
  | (show CMul _ _; first | exact Or.inr (by decide) | exact Or.inl (by decide) | (refine Or.inl ⟨?_, ?_⟩ <;> omega) | (refine Or.inr ⟨?_, ?_⟩ <;> omega))
  | (show CDivN _ _; refine ⟨?_, ?_⟩ <;> omega)
  | (show CPow _ _; exact ⟨by decide, by decide, by decide⟩)
  | (show (0 : Int) < _; first | decide | assumption | omega))
local macro_rules | `(tactic| walk_at "rd1") => `(tactic| first
  | refine ⟨_, _, rfl, rfl, (by walk_at "side"), ?_⟩
  | refine ⟨_, rfl, ?_⟩
  | refine ⟨_, _, rfl, rfl, ?_⟩
  | refine ⟨rfl, ?_⟩
  | refine .inl ⟨_, rfl, ?_⟩
  | refine ⟨_, _, _, _, rfl, rfl, SqL.of (by first | assumption | exact upd_same), atI_nat (j := _) rfl, ?_⟩
  | refine ⟨_, _, _, _, rfl, rfl, (by first | assumption | exact upd_same), rfl, ?_⟩)
local macro_rules | `(tactic| walk_at "rd") => `(tactic| repeat (walk_at "rd1"))

theorem cut_head (ns : List Int) (nn : ∀ n ∈ ns, (0 : Int) ≤ n) (i : Option Int) : ∃ x : Int, 0 ≤ x ∧ (cutV (ns.map V.int) i none ++ [V.int 0])[0]? = some (.int x) := by
  have hm : ∀ v ∈ cutV (ns.map V.int) i none, ∃ x : Int, 0 ≤ x ∧ v = .int x := fun v hv => by
    have h1 : v ∈ ns.map V.int := List.mem_of_mem_drop (List.mem_of_mem_take hv)
    obtain ⟨x, hx, rfl⟩ := List.mem_map.mp h1
    exact ⟨x, nn x hx, rfl⟩
  cases e : cutV (ns.map V.int) i none with
  | nil => exact ⟨0, by decide, rfl⟩
  | cons v r =>
    obtain ⟨x, h0, rfl⟩ := hm v (by rw [e]; exact List.mem_cons_self ..)
    exact ⟨x, h0, rfl⟩
theorem cut_size (ns : List Int) (nl : ns.length ≤ 63) (i : Option Int) : (cutV (ns.map V.int) i none).length + [V.int 0].length ≤ sizeLine := by
  have h := cutV_length (ns.map V.int) i none
  rw [List.length_map] at h
  exact Nat.le_trans (Nat.add_le_add_right (Nat.le_trans h nl) 1) (by decide)
theorem c_l_take (T : Txt K mg w) : Cal P w K mg base 1 "_law_take" spTake [] := by
  refine calOf T.d_l_take sc_l_take (fun vs H Q E h => ?_) (fun f cdv A outer s H vs Q E hr h => ?_)
  · obtain ⟨g, n, c, e, rfl, _⟩ := h
    rfl
  · obtain ⟨g, n, c, e, rfl, B, n0, n1, k⟩ := h
    have hLb := B.ne
    obtain ⟨z, m, i, ns, hb, hL, z0, m0, m1, i0, nn, nl⟩ := B.ex
    refine ⟨_,
      (Evl.pss_cut (ps_if (pt_cmpR op_eq (pe_ix ix_list (pv 0) pe_int (fun _ _ => rfl)) pe_int (nomark _))
        (pss_cons (ps_set (i := 2) sc_l_take.nd rfl (Or.inl rfl) (pe_ix ix_list (pe_op op_cat (pe_slice sl_list (pe_ix ix_list (pv 0) pe_int (fun _ _ => rfl)) (po_some (pe_ix ix_list (pv 0) pe_int (fun _ _ => rfl))) po_none) (pe_lst (pa_cons pe_int pa_nil))) pe_int (fun _ _ => rfl)))
        (pss_cons (ps_augS (pv 0) pe_int get_list pe_int ip_add set_list)
        (pss_cons (ps_if (pt_cmpR op_ge (pv 2) (pe_op op_pow pe_int pe_int) (nomark _))
        (pss_one (ps_asg (pv 2) (pg_sub (pv 0) pe_int set_list)))
        pss_nil)
        (pss_cons (ps_set (i := 3) sc_l_take.nd rfl (Or.inl rfl) (pe_op op_add (pe_op op_add (pe_op op_mul (pe_ix ix_list (pv 0) pe_int (fun _ _ => rfl)) pe_int) (pe_op op_mod (pe_callTy call_int1 (by rfl) T.n_int (by decide +kernel) (pa_cons (pv 2) pa_nil)) pe_int)) (pe_op op_mul pe_int (pe_ix ix_list (pv 0) pe_int (fun _ _ => rfl)))))
        (pss_one (ps_asg (pe_op op_mod (pe_callTy call_int1 (by rfl) T.n_int (by decide +kernel) (pa_cons (pv 3) pa_nil)) pe_int) (pg_sub (pv 0) pe_int set_list)))))))
        pss_nil)
        (pss_cons (ps_if (pt_cmpR op_gt (pe_ix ix_list (pv 0) pe_int (fun _ _ => rfl)) pe_int (nomark _))
        (pss_cons (ps_set (i := 4) sc_l_take.nd rfl (Or.inl rfl) (pe_op op_mod (pe_callTy call_int1 (by rfl) T.n_int (by decide +kernel) (pa_cons (pe_ix ix_list (pv 0) pe_int (fun _ _ => rfl)) pa_nil)) (pv 1)))
        (pss_cons (ps_asg (pe_op op_fdivN (pe_callTy call_int1 (by rfl) T.n_int (by decide +kernel) (pa_cons (pe_ix ix_list (pv 0) pe_int (fun _ _ => rfl)) pa_nil)) (pv 1)) (pg_sub (pv 0) pe_int set_list))
        (pss_one (ps_ret (pv 4)))))
        pss_nil)
        (pss_cons (ps_set (i := 5) sc_l_take.nd rfl (Or.inl rfl) (pe_op op_mod (pe_callTy call_int1 (by rfl) T.n_int (by decide +kernel) (pa_cons (pe_op op_mul (pe_op op_add (pe_ix ix_list (pv 0) pe_int (fun _ _ => rfl)) pe_int) pe_int) pa_nil)) pe_int))
        (pss_cons (ps_set (i := 6) sc_l_take.nd rfl (Or.inl rfl) (pe_op op_mod (pe_callTy call_int1 (by rfl) T.n_int (by decide +kernel) (pa_cons (pe_op op_mul (pe_op op_mod (pe_callTy call_int1 (by rfl) T.n_int (by decide +kernel) (pa_cons (pe_op op_mul (pv 5) (pv 5)) pa_nil)) pe_int) pe_int) pa_nil)) pe_int))
        (pss_one (ps_ret (pe_op op_mod (pe_callTy call_int1 (by rfl) T.n_int (by decide +kernel) (pa_cons (pe_op op_fdivN (pv 6) pe_int) pa_nil)) (pv 1))))))))
      , ?_⟩
    refine ⟨fun σ' H' => ∃ (z1 m1 i1 : Int) (v2 v3 : Option V), σ' = [some (.ref g.b), some (.int n), v2, v3, none, none, none] ∧ Fr g.b H H' ∧
        H' g.b = some (.lst [.int z1, .int m1, .int i1, .ref g.L, .int c, .int e]) ∧ 0 ≤ z1 ∧ 0 ≤ m1 ∧ m1 < 2147483647 ∧ 0 ≤ i1, ?_, ?_⟩
    · walk_at "rd"
      refine ite2 (fun h1 => ?_) (fun h1 => ?_)
      · walk_at "rd"
        refine ⟨_, _, rfl, SqL.of hL, fun p hp => ⟨(by decide), fun q hq => ⟨_, _, _, _, rfl, rfl, upd_some upd_same hq, upd_same, cut_size ns nl _, fun r hr => ?_⟩⟩⟩
        obtain ⟨x, x0, hx⟩ := cut_head ns nn (some i)
        refine ⟨_, _, _, _, rfl, rfl, SqL.of upd_same, atI_nat (j := 0) hx, ?_⟩
        have hb3 := upd_some (u := .lst (cutV (ns.map V.int) (some i) none ++ [.int 0])) (upd_some (u := .lst [.int 0]) (upd_some (u := .lst (cutV (ns.map V.int) (some i) none)) hb hp) hq) hr
        have fr3 : Fr g.b H _ := (((Fr.refl g.b H).new (o := .lst (cutV (ns.map V.int) (some i) none)) hp).new (o := .lst [.int 0]) hq).new (o := .lst (cutV (ns.map V.int) (some i) none ++ [.int 0])) hr
        generalize upd (upd (upd H p _) q _) r _ = H3 at hb3 fr3 ⊢
        -- bag[2] += 1
        walk_at "rd"
        have fr4 : ∀ o1 o2 : HO, Fr g.b H (upd (upd H3 g.b o1) g.b o2) := fun o1 o2 => fr3.at.at
        have md : ∀ y : Int, 0 ≤ y % 2147483647 ∧ y % 2147483647 < 2147483647 := fun y => ⟨Int.emod_nonneg _ (by decide), Int.emod_lt_of_pos _ (by decide)⟩
        refine ite2 (fun h2 => ?_) (fun h2 => ?_)
        · walk_at "rd"
          exact ⟨x, _, i + 1, _, _, rfl, fr3.at.at.at, upd_same, x0, (md _).1, (md _).2, by omega⟩
        · walk_at "rd"
          exact ⟨z, _, i + 1, _, _, rfl, fr3.at.at, upd_same, z0, (md _).1, (md _).2, by omega⟩
      · exact ⟨z, m, i, none, none, rfl, .refl _ _, hb, z0, m0, m1, i0⟩
    · rintro σ' H' ⟨z1, m1, i1, v2, v3, rfl, fr, hb1, z0, m0, mL, i0⟩
      have hn : ∀ y : Int, 0 ≤ y % n ∧ y % n < n := fun y => ⟨Int.emod_nonneg _ (by omega), Int.emod_lt_of_pos _ n0⟩
      walk_at "rd"
      refine ite2 (fun h1 => ?_) (fun h1 => ?_)
      · walk_at "rd"
        refine k _ _ (hn _).1 (hn _).2 (Drawn.mk' B ⟨⟨_, m1, i1, ns, upd_same, by rw [upd_ne hLb]; exact fr _ _ hLb hL, Int.fdiv_nonneg z0 (Int.le_of_lt n0), m0, mL, i0, nn, nl⟩, hLb⟩ fr.at)
      · walk_at "rd"
        exact k _ _ (hn _).1 (hn _).2 (Drawn.mk' B ⟨⟨z1, m1, i1, ns, hb1, fr _ _ hLb hL, z0, m0, mL, i0, nn, nl⟩, hLb⟩ fr)

def kws : List Str := ["let", "set", "give", "if", "else", "while", "for", "in", "def", "fn", "and", "or", "not", "true", "false", "none"]
theorem kws_split : Txt.split "let set give if else while for in def fn and or not true false none" " " = kws := by decide +kernel
def spKws : Sp := fun vs H Q _ => vs = [] ∧ ∀ p, H p = none → Q (.ref p) (upd H p (.lst (kws.map V.str)))
theorem c_l_keywords (T : Txt K mg w) : Cal P w K mg base 1 "_law_keywords" spKws [] := by
  refine calOf T.d_l_keywords sc_l_keywords (fun vs H Q E h => ?_) (fun f cdv A outer s H vs Q E hr h => ?_)
  · obtain ⟨rfl, _⟩ := h
    rfl
  · obtain ⟨rfl, k⟩ := h
    refine ⟨_,
      (pss_one (ps_ret (pe_split pe_str pe_str)))
      , ?_⟩
    refine ⟨⟨_, rfl⟩, _, _, rfl, rfl, rfl, by decide, fun p hp => ?_⟩
    rw [kws_split]
    exact k p hp

def isLetter (c : Nat) : Bool := (decide (65 ≤ c) && decide (c ≤ 90)) || decide (c = 95) || (decide (97 ≤ c) && decide (c ≤ 122))
def isDigit (c : Nat) : Bool := decide (48 ≤ c) && decide (c ≤ 57)
/-- a word that is a name of the language -/
def nameL (l : List Nat) : Bool := match l with
  | [] => false
  | c :: r => isLetter c && r.all fun d => isLetter d || isDigit d
structure NameOk (z : Str) : Prop where
  form : nameL z.cps.toList = true
  free : z ∉ kws
  size : z.length ≤ 12
def spName : Sp := fun vs H Q _ => ∃ (g : Bg) (c e : Int), vs = [.ref g.b] ∧ Bag H g c e ∧
  ∀ (z : Str) (H' : Hp), NameOk z → Drawn g H H' c e → Q (.str z) H'
def someNames : List Str := ["a", "b", "x1", "total", "_", "longer_name", "iff", "in2", "K"]
theorem someNames_ok : ∀ z ∈ someNames, NameOk z := by
  have h : someNames.all (fun z => nameL z.cps.toList && decide (z ∉ kws) && decide (z.length ≤ 12)) = true := by decide +kernel
  intro z hz
  have q := List.all_eq_true.mp h z hz
  rw [Bool.and_eq_true, Bool.and_eq_true] at q
  exact ⟨q.1.1, of_decide_eq_true q.1.2, of_decide_eq_true q.2⟩
theorem letters_ok : ∀ h ∈ (("abcdefghijklmnopqrstuvwxyzABCDEFGHIJKLMNOPQRSTUVWXYZ_" : Str)).cps.toList, isLetter h = true := by
  have h : (("abcdefghijklmnopqrstuvwxyzABCDEFGHIJKLMNOPQRSTUVWXYZ_" : Str)).cps.toList.all isLetter = true := by decide +kernel
  exact fun z hz => List.all_eq_true.mp h z hz
theorem more_ok : ∀ h ∈ (("abcdefghijklmnopqrstuvwxyzABCDEFGHIJKLMNOPQRSTUVWXYZ_" ++ "0123456789" : Str)).cps.toList, (isLetter h || isDigit h) = true := by
  have h : (("abcdefghijklmnopqrstuvwxyzABCDEFGHIJKLMNOPQRSTUVWXYZ_" ++ "0123456789" : Str)).cps.toList.all (fun h => isLetter h || isDigit h) = true := by decide +kernel
  exact fun z hz => List.all_eq_true.mp h z hz
theorem str_app (x y : Str) : (x ++ y).cps.toList = x.cps.toList ++ y.cps.toList := TL.tl_append x y
theorem str_len (x : Str) : x.length = x.cps.toList.length := by simp [Str.length]
theorem nameL_app {l : List Nat} {d : Nat} (h : nameL l = true) (hd : (isLetter d || isDigit d) = true) : nameL (l ++ [d]) = true := by
  cases l with
  | nil => cases h
  | cons c r =>
    have h' : (isLetter c && r.all fun d => isLetter d || isDigit d) = true := h
    rw [Bool.and_eq_true] at h'
    show (isLetter c && (r ++ [d]).all fun d => isLetter d || isDigit d) = true
    rw [Bool.and_eq_true, List.all_append, Bool.and_eq_true]
    exact ⟨h'.1, h'.2, by rw [List.all_cons, List.all_nil, hd] <;> rfl⟩
theorem kw_under {z : Str} (h : z ∈ kws) : z ++ ("_" : Str) ∉ kws := by
  have q : kws.all (fun z => decide (z ++ ("_" : Str) ∉ kws)) = true := by decide +kernel
  exact of_decide_eq_true (List.all_eq_true.mp q z h)
theorem strs_mem {z : V} {l : List Str} (h : z ∈ l.map V.str) : ∃ s ∈ l, z = .str s := by
  obtain ⟨s, hs, rfl⟩ := List.mem_map.mp h
  exact ⟨s, hs, rfl⟩
theorem strs_flat (l : List Str) : (l.map V.str).all flatV = true := by
  rw [List.all_map]
  exact List.all_eq_true.mpr fun _ _ => rfl
theorem inV_strs (z : Str) (l : List Str) : inV (.str z) (l.map V.str) = decide (z ∈ l) := by
  unfold inV
  induction l with
  | nil => rfl
  | cons y r ih =>
    rw [List.map_cons, List.any_cons, ih]
    have e : eqV (.str y) (.str z) = decide (y = z) := rfl
    rw [e]
    by_cases h : y = z
    · subst h
      simp
    · have h' : z ≠ y := fun q => h q.symm
      simp [h, h']
theorem c_l_name (T : Txt K mg w) (c_l_take : Cal P w K mg base 1 "_law_take" spTake []) (c_l_one : Cal P w K mg base 2 "_law_one" (spOne K) [])
    (c_l_keywords : Cal P w K mg base 1 "_law_keywords" spKws []) : Cal P w K mg base 3 "_law_name" spName [] := by
  refine calOf T.d_l_name sc_l_name (fun vs H Q E h => ?_) (fun f cdv A outer s H vs Q E hr h => ?_)
  · obtain ⟨g, c, e, rfl, _⟩ := h
    rfl
  · obtain ⟨g, c, e, rfl, B, k⟩ := h
    refine ⟨_,
      (pss_cons (ps_if (pt_cmpR op_gt (pe_c c_l_take hr (by first | decide | omega) rfl (pa_cons (pv 0) (pa_cons pe_int pa_nil))) pe_int (nomark _))
        (pss_one (ps_ret (pe_c c_l_one hr (by first | decide | omega) rfl (pa_cons (pv 0) (pa_cons (pe_lst (pa_cons pe_str (pa_cons pe_str (pa_cons pe_str (pa_cons pe_str (pa_cons pe_str (pa_cons pe_str (pa_cons pe_str (pa_cons pe_str (pa_cons pe_str pa_nil)))))))))) pa_nil)))))
        pss_nil)
        (pss_cons (ps_set (i := 1) sc_l_name.nd rfl (Or.inl rfl) pe_str)
        (pss_cons (ps_set (i := 2) sc_l_name.nd rfl (Or.inl rfl) (pe_c c_l_one hr (by first | decide | omega) rfl (pa_cons (pv 0) (pa_cons (pv 1) pa_nil))))
        (pss_cons (ps_for PassesOwn.never rfl (pi_range1 (by rfl) T.n_range (pa_cons (pe_c c_l_take hr (by first | decide | omega) rfl (pa_cons (pv 0) (pa_cons pe_int pa_nil))) pa_nil)) (pg_name (i := 3) sc_l_name.nd rfl (Or.inl rfl))
        (pss_one (ps_set (i := 2) sc_l_name.nd rfl (Or.inl rfl) (pe_op op_add_str (pv 2) (pe_c c_l_one hr (by first | decide | omega) rfl (pa_cons (pv 0) (pa_cons (pe_op op_add_str (pv 1) pe_str) pa_nil)))))))
        (pss_one (ps_ret (pe_ifExp (pt_cmpR op_in_seq (pv 2) (pe_c0 c_l_keywords hr (by first | decide | omega) rfl) (by rfl)) (pe_op op_add_str (pv 2) pe_str) (pv 2))))))))
      , ?_⟩
    refine ⟨_, rfl, g, 4, c, e, rfl, B, by decide, by decide, fun r H1 r0 r1 D1 => ?_⟩
    walk_at "rd"
    refine ite2 (fun h1 => ?_) (fun h1 => ?_)
    · refine ⟨_, rfl, by decide, fun p hp => ?_⟩
      have D2 := D1.new (o := .lst (someNames.map V.str)) hp
      refine ⟨g, _, c, e, rfl, D2.bag, .inl ⟨p, someNames.map V.str, rfl, .inl (SqL.of upd_same), D1.bag.ne_new hp, by decide, by decide, fun v H' hv D3 => ?_⟩⟩
      obtain ⟨z, hz, rfl⟩ := strs_mem hv
      exact k z H' (someNames_ok z hz) (D2.trans D3)
    · walk_at "rd"
      refine ⟨g, _, c, e, rfl, D1.bag, .inr ⟨_, rfl, by decide, by decide, fun d H2 hd D2 => ?_⟩⟩
      have D12 := D1.trans D2
      walk_at "rd"
      refine ⟨g, _, c, e, rfl, D12.bag, by decide, by decide, fun r2 H3 r20 r21 D3 => ⟨_, rfl, by omega, by omega, ?_⟩⟩
      refine for_range (lo := 0) (n := r2.toNat) (fun i σ H' => ∃ (z : Str) (v : Option V), σ = [some (.ref g.b), some (.str "abcdefghijklmnopqrstuvwxyzABCDEFGHIJKLMNOPQRSTUVWXYZ_"), some (.str z), v] ∧
        nameL z.cps.toList = true ∧ z.length = i + 1 ∧ Drawn g H H' c e) ⟨⟨#[d]⟩, none, rfl, ?_, rfl, D12.trans D3⟩ ?_ ?_
      · show (isLetter d && true) = true
        rw [letters_ok d hd] <;> rfl
      · rintro i σ H' hi ⟨z, v, rfl, hz, hl, D⟩
        walk_at "rd"
        refine ⟨by decide, g, _, c, e, rfl, D.bag, .inr ⟨_, rfl, by decide, by decide, fun d2 H2 hd2 D2 => ?_⟩⟩
        have e1 : (⟨#[d2]⟩ : Str).length = 1 := rfl
        refine ⟨_, _, rfl, rfl, by rw [hl, e1]; exact Nat.le_trans (show i + 1 + 1 ≤ 9 by omega) (by decide), ?_⟩
        refine ⟨_, _, rfl, ?_, ?_, D.trans D2⟩
        · rw [str_app]
          exact nameL_app hz (more_ok d2 hd2)
        · rw [Str.length_append, hl, e1]
      · rintro σ H' ⟨z, v, rfl, hz, hl, D⟩
        refine ⟨_, rfl, rfl, fun p hp => ?_⟩
        refine ⟨p, kws.map V.str, rfl, .inl (SqL.of upd_same), rfl, strs_flat _, _, rfl, ?_⟩
        have D' := D.new (o := .lst (kws.map V.str)) hp
        rw [if_neg Bool.false_ne_true, inV_strs]
        refine ite2 (fun h2 => ?_) (fun h2 => ?_)
        · have e1 : ("_" : Str).length = 1 := rfl
          refine ⟨_, rfl, _, _, rfl, rfl, by rw [hl, e1]; exact Nat.le_trans (show r2.toNat + 1 + 1 ≤ 9 by omega) (by decide), ?_⟩
          refine k _ _ ⟨?_, kw_under (of_decide_eq_true h2), ?_⟩ D'
          · rw [str_app]
            exact nameL_app hz rfl
          · rw [Str.length_append, hl, e1]
            omega
        · exact ⟨_, rfl, k _ _ ⟨hz, fun q => h2 (decide_eq_true q), by omega⟩ D'⟩

def numbersL : List Str := ["0", "1", "12", "3.5", "007", "10.0", "4689", "86.94"]
def quotesL : List Str := ["\"\"", "\"a b\"", "\"\\\"\\n\"", "\"# <* ;\"", "\"'''\"", "\"\\\\\"", "\"\\t\""]
def constsL : List Str := ["true", "false", "none"]
def rawsL : List Str := ["''''''", "'''a\nb'''", "'''  # x '''", "'''\n'''", "'''\" ''x'''"]
/-- a word of its kind -/
inductive Leaf : Str → Str → Prop
  | name {w : Str} : NameOk w → Leaf "name" w
  | number {w : Str} : w ∈ numbersL → Leaf "number" w
  | quote {w : Str} : w ∈ quotesL → Leaf "quote" w
  | word {w : Str} : w ∈ constsL → Leaf "word" w
  | raw {w : Str} : w ∈ rawsL → Leaf "raw" w
def spAtom : Sp := fun vs H Q _ => ∃ (g : Bg) (c e : Int), vs = [.ref g.b] ∧ Bag H g c e ∧
  ∀ (v : V) (k w : Str) (H' : Hp), Leaf k w → Tr H' v (.tuple [.str k, .str w]) → Drawn g H H' c e → Q v H'
theorem pair_tr {H : Hp} {p : Addr} (k w : Str) : Tr (upd H p (.tup [.str k, .str w])) (.ref p) (.tuple [.str k, .str w]) := .tup upd_same (.cons (.str k) (.cons (.str w) .nil))
theorem c_l_atom (T : Txt K mg w) (c_l_take : Cal P w K mg base 1 "_law_take" spTake []) (c_l_one : Cal P w K mg base 2 "_law_one" (spOne K) [])
    (c_l_name : Cal P w K mg base 3 "_law_name" spName []) : Cal P w K mg base 4 "_law_atom" spAtom [] := by
  refine calOf T.d_l_atom sc_l_atom (fun vs H Q E h => ?_) (fun f cdv A outer s H vs Q E hr h => ?_)
  · obtain ⟨g, c, e, rfl, _⟩ := h
    rfl
  · obtain ⟨g, c, e, rfl, B, k⟩ := h
    refine ⟨_,
      (pss_cons (ps_set (i := 1) sc_l_atom.nd rfl (Or.inl rfl) (pe_c c_l_take hr (by first | decide | omega) rfl (pa_cons (pv 0) (pa_cons pe_int pa_nil))))
        (pss_cons (ps_if (pt_cmpR op_lt (pv 1) pe_int (nomark _))
        (pss_one (ps_ret (pe_tup (pa_cons pe_str (pa_cons (pe_c c_l_name hr (by first | decide | omega) rfl (pa_cons (pv 0) pa_nil)) pa_nil)))))
        pss_nil)
        (pss_cons (ps_if (pt_cmpR op_lt (pv 1) pe_int (nomark _))
        (pss_one (ps_ret (pe_tup (pa_cons pe_str (pa_cons (pe_c c_l_one hr (by first | decide | omega) rfl (pa_cons (pv 0) (pa_cons (pe_lst (pa_cons pe_str (pa_cons pe_str (pa_cons pe_str (pa_cons pe_str (pa_cons pe_str (pa_cons pe_str (pa_cons pe_str (pa_cons pe_str pa_nil))))))))) pa_nil))) pa_nil)))))
        pss_nil)
        (pss_cons (ps_if (pt_cmpR op_eq (pv 1) pe_int (nomark _))
        (pss_cons (ps_set (i := 2) sc_l_atom.nd rfl (Or.inl rfl) (pe_lst (pa_cons pe_str (pa_cons pe_str (pa_cons pe_str (pa_cons pe_str (pa_cons pe_str (pa_cons pe_str (pa_cons pe_str pa_nil)))))))))
        (pss_one (ps_ret (pe_tup (pa_cons pe_str (pa_cons (pe_c c_l_one hr (by first | decide | omega) rfl (pa_cons (pv 0) (pa_cons (pv 2) pa_nil))) pa_nil))))))
        pss_nil)
        (pss_cons (ps_if (pt_cmpR op_eq (pv 1) pe_int (nomark _))
        (pss_one (ps_ret (pe_tup (pa_cons pe_str (pa_cons (pe_c c_l_one hr (by first | decide | omega) rfl (pa_cons (pv 0) (pa_cons (pe_lst (pa_cons pe_str (pa_cons pe_str (pa_cons pe_str pa_nil)))) pa_nil))) pa_nil)))))
        pss_nil)
        (pss_one (ps_ret (pe_tup (pa_cons pe_str (pa_cons (pe_c c_l_one hr (by first | decide | omega) rfl (pa_cons (pv 0) (pa_cons (pe_lst (pa_cons pe_str (pa_cons pe_str (pa_cons pe_str (pa_cons pe_str (pa_cons pe_str pa_nil)))))) pa_nil))) pa_nil))))))))))
      , ?_⟩
    -- one of some written texts, and the tuple of it
    have pick : ∀ (l : List Str) (kd : Str) (H1 : Hp), Drawn g H H1 c e → 0 < l.length → l.length < 1000 → (∀ w ∈ l, Leaf kd w) → ∀ p, H1 p = none →
        ∀ Q' : VK, (∀ w H3, Drawn g H H3 c e → w ∈ l → Q' (.str w) H3) → spOne K [.ref g.b, .ref p] (upd H1 p (.lst (l.map V.str))) Q' E0 := by
      intro l kd H1 D h0 h1 hl p hp Q' q
      have D2 := D.new (o := .lst (l.map V.str)) hp
      refine ⟨g, _, c, e, rfl, D2.bag, .inl ⟨p, l.map V.str, rfl, .inl (SqL.of upd_same), D.bag.ne_new hp, by rw [List.length_map]; exact h0, by rw [List.length_map]; exact h1, fun v H' hv D3 => ?_⟩⟩
      obtain ⟨z, hz, rfl⟩ := strs_mem hv
      exact q z H' (D2.trans D3) hz
    refine ⟨_, rfl, g, 8, c, e, rfl, B, by decide, by decide, fun r H1 r0 r1 D1 => ?_⟩
    walk_at "rd"
    refine ite2 (fun h1 => ?_) (fun h1 => ?_)
    · walk_at "rd"
      refine ⟨g, c, e, rfl, D1.bag, fun z H2 hz D2 => ⟨by show 2 ≤ sizeLine; decide, fun p hp => ?_⟩⟩
      exact k _ _ _ _ (.name hz) (pair_tr _ _) ((D1.trans D2).new hp)
    · walk_at "rd"
      refine ite2 (fun h2 => ?_) (fun h2 => ?_)
      · walk_at "rd"
        refine ⟨by decide, fun p hp => pick numbersL "number" H1 D1 (by decide) (by decide) (fun w hw => .number hw) p hp _ fun w H3 D3 hw => ⟨by show 2 ≤ sizeLine; decide, fun p2 hp2 => ?_⟩⟩
        exact k _ _ _ _ (.number hw) (pair_tr _ _) (D3.new hp2)
      · walk_at "rd"
        refine ite2 (fun h3 => ?_) (fun h3 => ?_)
        · walk_at "rd"
          refine ⟨by decide, fun p hp => ?_⟩
          walk_at "rd"
          refine pick quotesL "quote" H1 D1 (by decide) (by decide) (fun w hw => .quote hw) p hp _ fun w H3 D3 hw => ⟨by show 2 ≤ sizeLine; decide, fun p2 hp2 => ?_⟩
          exact k _ _ _ _ (.quote hw) (pair_tr _ _) (D3.new hp2)
        · walk_at "rd"
          refine ite2 (fun h4 => ?_) (fun h4 => ?_)
          · walk_at "rd"
            refine ⟨by decide, fun p hp => pick constsL "word" H1 D1 (by decide) (by decide) (fun w hw => .word hw) p hp _ fun w H3 D3 hw => ⟨by show 2 ≤ sizeLine; decide, fun p2 hp2 => ?_⟩⟩
            exact k _ _ _ _ (.word hw) (pair_tr _ _) (D3.new hp2)
          · walk_at "rd"
            refine ⟨by decide, fun p hp => pick rawsL "raw" H1 D1 (by decide) (by decide) (fun w hw => .raw hw) p hp _ fun w H3 D3 hw => ⟨by show 2 ≤ sizeLine; decide, fun p2 hp2 => ?_⟩⟩
            exact k _ _ _ _ (.raw hw) (pair_tr _ _) (D3.new hp2)

def spBag (K : PySem.W.Frag) : Sp := fun vs H Q _ => ∃ (a : Addr) (ns : List Int), vs = [.ref a] ∧ SqL K H a (ns.map V.int) ∧ ns.length ≤ 63 ∧ ∀ (g : Bg) (H' : Hp), Same H H' → Bag H' g 0 0 → Q (.ref g.b) H'
theorem cut_ints (ns : List Int) (lo hi : Option Int) : ∃ ms : List Int, cutV (ns.map V.int) lo hi = ms.map V.int ∧ ms.length ≤ ns.length := by
  refine ⟨(ns.drop (HT.sIx (ns.map V.int).length 0 lo)).take (HT.sIx (ns.map V.int).length (ns.map V.int).length hi - HT.sIx (ns.map V.int).length 0 lo), ?_, ?_⟩
  · unfold cutV
    rw [List.map_take, List.map_drop]
  · rw [List.length_take, List.length_drop]
    omega
theorem c_l_bag (T : Txt K mg w) : Cal P w K mg base 1 "_law_bag" (spBag K) [] := by
  refine calOf T.d_l_bag sc_l_bag (fun vs H Q E h => ?_) (fun f cdv A outer s H vs Q E hr h => ?_)
  · obtain ⟨a, ns, rfl, _⟩ := h
    rfl
  · obtain ⟨a, ns, rfl, hq, hl, k⟩ := h
    refine ⟨_,
      (pss_one (ps_ret (pe_lst (pa_cons pe_int (pa_cons pe_int (pa_cons pe_int (pa_cons (pe_lc (own := [("_law_cell", 1)]) (g := gName 1) (tt := tYes) rfl sc_l_bag.nd (pi_list (pe_slice sl_list (pv 0) po_none (po_some pe_int))) (blkOk_by (N := ["_law_script", "_law_cell"]) (sc := defScope s_l_bag) (by decide +kernel)) (fun _ _ _ _ _ => pg_name (i := 1) sc_l_bag.nd rfl (Or.inl rfl)) (fun _ _ _ _ _ => pts_nil) (fun _ _ _ _ _ => (pe_callB call_abs (by rfl) T.n_abs (by decide +kernel) (pa_cons (pv 1) pa_nil)))) (pa_cons pe_int (pa_cons pe_int pa_nil)))))))))
      , ?_⟩
    obtain ⟨ms, em, lm⟩ := cut_ints ns none (some 63)
    refine ⟨_, rfl, _, rfl, a, _, rfl, hq, fun p hp => ?_⟩
    rw [em]
    refine ⟨p, rfl, ⟨_, SqL.of upd_same⟩, fun D hD => ?_⟩
    have ap : upd H p (.lst (ms.map V.int)) p = some (.lst (ms.map V.int)) := upd_same
    have s1 : Same H (upd H p (.lst (ms.map V.int))) := same_new hp
    generalize upd H p (HO.lst (ms.map V.int)) = H1 at ap s1 hD ⊢
    refine lc_list (K := K) (a := p) (xs := ms.map V.int) (fun i H' => H' D = some (.lst (((ms.take i).map fun n => if n < 0 then -n else n).map V.int)) ∧ Same H1 H') ⟨upd_same, same_put (Same.refl _) hD⟩ (fun i H' _ ⟨_, s2⟩ => SqL.of (s2 _ _ ap)) ?_ ?_
    · rintro i y H' hi ⟨hd, s2⟩
      rw [List.getElem?_map] at hi
      obtain ⟨n, hn, rfl⟩ := Option.map_eq_some_iff.mp hi
      have li := (List.getElem?_eq_some_iff.mp hn).1
      refine ⟨rfl, _, rfl, n, rfl, _, hd, ?_, ?_, same_put s2 hD⟩
      · rw [List.length_map, List.length_map, List.length_take]
        exact Nat.lt_of_le_of_lt (Nat.min_le_left _ _) (Nat.lt_of_lt_of_le (show i < 100 by omega) (by decide))
      · rw [upd_same, List.take_add_one, hn, List.map_append, List.map_append]
        rfl
    · rintro H2 ⟨hd, s2⟩
      rw [List.length_map, List.take_length] at hd
      refine ⟨by show 6 ≤ sizeLine; decide, fun b hb => ?_⟩
      refine k ⟨b, D⟩ _ ((s1.trans s2).trans (same_new hb)) ⟨⟨0, 1234567891, 0, ms.map fun n => if n < 0 then -n else n, upd_same, upd_some hd hb, by decide, by decide, by decide, by decide, ?_, ?_⟩, ?_⟩
      · intro n hn
        obtain ⟨x, _, rfl⟩ := List.mem_map.mp hn
        show 0 ≤ if x < 0 then -x else x
        split <;> omega
      · rw [List.length_map]
        omega
      · exact ne_of_none hd hb

theorem c_l_one (T : Txt K mg w) (c_l_take : Cal P w K mg base 1 "_law_take" spTake []) : Cal P w K mg base 2 "_law_one" (spOne K) [] := by
  refine calOf T.d_l_one sc_l_one (fun vs H Q E h => ?_) (fun f cdv A outer s H vs Q E hr h => ?_)
  · obtain ⟨g, x, c, e, rfl, _⟩ := h
    rfl
  · obtain ⟨g, x, c, e, rfl, B, h⟩ := h
    refine ⟨_,
      (pss_one (ps_ret (pe_ix ix_seq (pv 1) (pe_c c_l_take hr (by first | decide | omega) rfl (pa_cons (pv 0) (pa_cons (pe_callB call_len (by rfl) T.n_len PySem.boot_len (pa_cons (pv 1) pa_nil)) pa_nil))) (fun _ _ => rfl))))
      , ?_⟩
    rcases h with ⟨p, xs, rfl, hq, pb, h0, h1, k⟩ | ⟨z, rfl, h0, h1, k⟩
    · refine ⟨_, rfl, _, rfl, _, rfl, _, xs.length, rfl, hq.elim (fun q => .inl ⟨_, q, rfl⟩) (fun q => .inr ⟨_, q, rfl⟩), g, xs.length, c, e, rfl, B, by omega, by omega, fun r H' r0 r1 D => ?_⟩
      obtain ⟨v, hv, ha⟩ := at_of r0 r1
      rcases hq with q | q
      · exact .inl ⟨_, _, _, _, rfl, rfl, D.seqL pb q, ha, k v H' hv D⟩
      · exact .inr (.inl ⟨_, _, _, _, rfl, rfl, D.seqT pb q, ha, k v H' hv D⟩)
    · have hz : z.length ≤ sizeLine := Nat.le_trans (Nat.le_of_lt h1) (by decide)
      refine ⟨_, rfl, _, rfl, _, rfl, _, z.length, rfl, ⟨hz, rfl⟩, g, z.length, c, e, rfl, B, by omega, by omega, fun r H' r0 r1 D => ?_⟩
      obtain ⟨v, hv, ha⟩ := at_of (xs := z.cps.toList) r0 (by simpa [Str.length] using r1)
      exact .inr (.inr ⟨_, _, _, rfl, rfl, hz, ha, k v H' hv D⟩)

open LamX (CodeO TabS Tabs ExtN TabB)
theorem lt_one (a b : Nat) : decide (([a] : List Nat) < [b]) = decide (a < b) := by
  have h : (([a] : List Nat) < [b]) ↔ a < b := by
    constructor
    · intro q
      cases q with
      | rel h => exact h
      | cons h => cases h
    · exact fun q => .rel q
  exact decide_eq_decide.mpr h
theorem le_one (a c : Nat) : (!decide (([c] : List Nat) < [a])) = decide (a ≤ c) := by
  rw [lt_one]
  by_cases h : c < a
  · rw [decide_eq_true h, decide_eq_false (by omega)] <;> rfl
  · rw [decide_eq_false h, decide_eq_true (by omega)] <;> rfl
theorem eq_one (a c : Nat) : decide (V.str ⟨#[c]⟩ = V.str ⟨#[a]⟩) = decide (c = a) := by
  refine decide_eq_decide.mpr ⟨fun h => ?_, fun h => by rw [h]⟩
  cases h
  rfl
/-- of one sign, a truth of it -/
def spSg (g : Nat → Bool) : Sp := fun vs H Q _ => ∃ c : Nat, vs = [.str ⟨#[c]⟩] ∧ Q (.bl (g c)) H
abbrev rLeStr : R2 := fun x y H Q => ∃ i j, x = .str i ∧ y = .str j ∧ Q (.bl (!decide (j.cps.toList < i.cps.toList))) H
theorem chain_one {a b c : Nat} {σ : L2.St} {H : Hp} {Q : VK} (hs : σ[0]? = some (some (.str ⟨#[c]⟩))) (q : Q (.bl (decide (a ≤ c) && decide (c ≤ b))) H) :
    tChain rLeStr rLeStr (tC (.str ⟨#[a]⟩)) (tVar 0) (tC (.str ⟨#[b]⟩)) σ H Q := by
  refine ⟨_, hs, _, _, rfl, rfl, _, rfl, ?_⟩
  rw [show (!decide ((⟨#[c]⟩ : Str).cps.toList < (⟨#[a]⟩ : Str).cps.toList)) = decide (a ≤ c) from le_one a c]
  by_cases h : a ≤ c
  · rw [if_pos (decide_eq_true h)]
    refine ⟨_, _, rfl, rfl, ?_⟩
    rw [show (!decide ((⟨#[b]⟩ : Str).cps.toList < (⟨#[c]⟩ : Str).cps.toList)) = decide (c ≤ b) from le_one c b]
    rw [decide_eq_true h, Bool.true_and] at q
    exact q
  · rw [if_neg (by rw [decide_eq_false h]; decide)]
    rw [decide_eq_false h, Bool.false_and] at q
    exact q
theorem c_l_is_digit (T : Txt K mg w) : Cal P w K mg base 1 "_law_is_digit" (spSg digC) [] := by
  refine calOf T.d_l_is_digit sc_l_is_digit (fun vs H Q E h => ?_) (fun f cdv A outer s H vs Q E hr h => ?_)
  · obtain ⟨c, rfl, _⟩ := h
    rfl
  · obtain ⟨c, rfl, k⟩ := h
    refine ⟨_,
      (pss_one (ps_ret (pe_chain op_le_str op_le_str pe_str (pv 0) pe_str)))
      , ?_⟩
    exact chain_one (a := 48) (b := 57) rfl k
theorem c_l_is_letter (T : Txt K mg w) : Cal P w K mg base 1 "_law_is_letter" (spSg letC) [] := by
  refine calOf T.d_l_is_letter sc_l_is_letter (fun vs H Q E h => ?_) (fun f cdv A outer s H vs Q E hr h => ?_)
  · obtain ⟨c, rfl, _⟩ := h
    rfl
  · obtain ⟨c, rfl, k⟩ := h
    refine ⟨_,
      (pss_one (ps_ret (pe_or (pe_chain op_le_str op_le_str pe_str (pv 0) pe_str) (pe_or (pe_chain op_le_str op_le_str pe_str (pv 0) pe_str) (pe_one (pe_cmpR op_eq (pv 0) pe_str (nomark _)))))))
      , ?_⟩
    show tOrV (tChain _ _ (tC _) (tVar 0) (tC _)) (tOrV (tChain _ _ (tC _) (tVar 0) (tC _)) _) _ _ _
    unfold letC at k
    delta tOrV
    refine chain_one (a := 97) (b := 122) (c := c) rfl ⟨_, rfl, ?_⟩
    by_cases h1 : (decide (97 ≤ c) && decide (c ≤ 122)) = true
    · rw [if_pos h1]
      rw [h1, Bool.true_or] at k
      exact k
    · rw [if_neg h1]
      rw [Bool.eq_false_iff.mpr h1, Bool.false_or] at k
      refine chain_one (a := 65) (b := 90) (c := c) rfl ⟨_, rfl, ?_⟩
      by_cases h2 : (decide (65 ≤ c) && decide (c ≤ 90)) = true
      · rw [if_pos h2]
        rw [h2, Bool.true_or] at k
        exact k
      · rw [if_neg h2]
        rw [Bool.eq_false_iff.mpr h2, Bool.false_or] at k
        refine ⟨_, rfl, rfl, ?_⟩
        rw [show decide (V.str ⟨#[c]⟩ = V.str "_") = decide (c = 95) from eq_one 95 c]
        exact k
theorem at_lt {t : Str} {j : Nat} (h : j < t.length) : ∃ c, t.cps.toList[j]? = some c := by
  rw [str_len] at h
  exact ⟨_, List.getElem?_eq_getElem h⟩

theorem One.mono {j k : Nat} {f : Addr} {sp : Sp} (o : One P w K mg base j f sp) (h : j ≤ k) : One P w K mg base k f sp :=
  fun A out s H u v Q E hr e0 rv hs => o A out s H u v Q E (hr.mono h) e0 rv hs
def spRun (P : Program) (w : World) (K : PySem.W.Frag) (mg : Str → Option Value) (base : Heap) : Sp := fun vs H Q _ => ∃ (t : Str) (i : Nat) (f : Addr) (g : Nat → Bool) (sp : Sp), vs = [.str t, .int i, .ref f] ∧
  t.length ≤ sizeLine ∧ One P w K mg base 2 f sp ∧ Callee K H f ∧ (∀ (c : Nat) (Q' : VK) (E' : XK), Q' (.bl (g c)) H → sp [.str ⟨#[c]⟩] H Q' E') ∧ Q (.int (runE g t.cps.toList i)) H
theorem c_l_run (T : Txt K mg w) : Cal P w K mg base 3 "_law_run" (spRun P w K mg base) [] := by
  refine calOf T.d_l_run sc_l_run (fun vs H Q E h => ?_) (fun f cdv A outer s H vs Q E hr h => ?_)
  · obtain ⟨t, i, f, g, sp, rfl, _⟩ := h
    rfl
  · obtain ⟨t, i, f, g, sp, rfl, hz, O, cl, hg, k⟩ := h
    refine ⟨_,
      (pss_cons (ps_while PassesOwn.never (PW.pt (pw_and (pt_cmpR op_lt (pv 1) (pe_callB call_len (by rfl) T.n_len PySem.boot_len (pa_cons (pv 0) pa_nil)) (nomark _)) (pw_and1 (pt_val (pe_callV (k := 2) (i := 2) (hr.mono (by decide)) rfl (Or.inl rfl) (pa_cons (pe_ix ix_str (pv 0) (pv 1) (fun _ _ => rfl)) pa_nil))))))
        (pss_one (ps_aug (i := 1) sc_l_run.nd rfl (Or.inl rfl) pe_int ip_add)))
        (pss_one (ps_ret (pv 1))))
      , ?_⟩
    refine ⟨fun m σ' H' => ∃ j : Nat, σ' = [some (.str t), some (.int j), some (.ref f)] ∧ H' = H ∧ i ≤ j ∧ runE g t.cps.toList j = runE g t.cps.toList i ∧ m = t.length - j,
      ⟨_, i, rfl, rfl, Nat.le_refl _, rfl, rfl⟩, ?_⟩
    rintro m σ' H' ⟨j, rfl, rfl, hj, he, rfl⟩
    refine ⟨_, rfl, _, rfl, _, t.length, rfl, ⟨hz, rfl⟩, _, _, rfl, rfl, _, rfl, ?_⟩
    refine ite2 (fun h1 => ?_) (fun h1 => ?_)
    · have hlt : j < t.length := by
        have := of_decide_eq_true h1
        omega
      obtain ⟨c, hc⟩ := at_lt hlt
      refine ⟨f, sp, rfl, O, cl, _, rfl, _, rfl, _, _, c, rfl, rfl, hz, atI_nat hc, cl, ⟨_, rfl⟩, hg c _ _ ⟨_, rfl, ?_⟩⟩
      refine ite2 (fun h2 => ?_) (fun h2 => ?_)
      · refine ⟨fun σ' H2 => ∃ m', m' < t.length - j ∧ ∃ j : Nat, σ' = [some (.str t), some (.int j), some (.ref f)] ∧ H2 = H' ∧ i ≤ j ∧ runE g t.cps.toList j = runE g t.cps.toList i ∧ m' = t.length - j, fun _ _ h => h, ?_⟩
        refine ⟨_, rfl, _, _, rfl, rfl, ?_⟩
        exact ⟨_, (by omega : t.length - (j + 1) < t.length - j), j + 1, rfl, rfl, by omega, by rw [← he, run_step hc h2], rfl⟩
      · refine ⟨_, rfl, ?_⟩
        have e := run_stop hc (Bool.eq_false_iff.mpr h2)
        rw [← he, e] at k
        exact k
    · have hge : t.cps.toList.length ≤ j := by
        have : ¬ ((j : Int) < (t.length : Int)) := fun q => h1 (decide_eq_true q)
        rw [← str_len]
        omega
      refine iteF ?_
      refine ⟨_, rfl, ?_⟩
      have e := run_end (g := g) hge
      rw [← he, e] at k
      exact k

theorem ite_map {c A B A' B' : Prop} [Decidable c] (h : if c then A else B) (f : A → A') (g : B → B') : if c then A' else B' := by
  by_cases hc : c
  · rw [if_pos hc] at h ⊢
    exact f h
  · rw [if_neg hc] at h ⊢
    exact g h
theorem drop_take (L : List Nat) {i j : Nat} (h : i ≤ j) : (L.drop (min i L.length)).take (min j L.length - min i L.length) = (L.drop i).take (j - i) := by
  by_cases hi : i ≤ L.length
  · rw [Nat.min_eq_left hi]
    by_cases hj : j ≤ L.length
    · rw [Nat.min_eq_left hj]
    · rw [Nat.min_eq_right (by omega), List.take_of_length_le (by rw [List.length_drop]; omega), List.take_of_length_le (by rw [List.length_drop]; omega)]
  · have e1 : min i L.length = L.length := by omega
    rw [e1, List.drop_eq_nil_iff.mpr (by omega : L.length ≤ i), List.drop_length, List.take_nil, List.take_nil]
theorem cut2 (z : Str) {i j : Nat} (h : i ≤ j) : cutS z (some (i : Int)) (some (j : Int)) = ⟨((z.cps.toList.drop i).take (j - i)).toArray⟩ := by
  unfold cutS
  rw [HT.sIx_nat, HT.sIx_nat, str_len, drop_take _ h]
theorem take1 (L : List Nat) (i : Nat) : (L.drop i).take 1 = L[i]?.toList := by
  cases e : L[i]? with
  | some c =>
    rw [drop_at e]
    rfl
  | none =>
    rw [List.drop_eq_nil_iff.mpr (List.getElem?_eq_none_iff.mp e)]
    rfl
theorem ofL_iff {l : List Nat} {z : Str} : (⟨l.toArray⟩ : Str) = z ↔ l = z.cps.toList := by
  constructor
  · rintro rfl
    rfl
  · rintro rfl
    obtain ⟨a⟩ := z
    rfl
theorem str_ofL (l : List Nat) (z : Str) : decide (V.str ⟨l.toArray⟩ = V.str z) = decide (l = z.cps.toList) := by
  refine decide_eq_decide.mpr ⟨fun h => ?_, fun h => ?_⟩
  · injection h with h
    exact ofL_iff.mp h
  · rw [ofL_iff.mpr h]
def optV : Option Nat → V
  | some e => .int e
  | none => .non
theorem quo_34 (r : List Nat) (i : Nat) : quoE (34 :: r) i = some (i + 1) := by unfold quoE; rfl
theorem quo_10 (r : List Nat) (i : Nat) : quoE (10 :: r) i = none := by unfold quoE; rfl
theorem quo_esc (d : Nat) (r : List Nat) (i : Nat) : quoE (92 :: d :: r) i = if escC d then quoE r (i + 2) else none := by rw [quoE]; rfl
theorem quo_92 (i : Nat) : quoE [92] i = none := by unfold quoE; rfl
theorem quo_on {c : Nat} (r : List Nat) (i : Nat) (h1 : c ≠ 34) (h2 : c ≠ 10) (h3 : c ≠ 92) : quoE (c :: r) i = quoE r (i + 1) := by rw [quoE.eq_def (c :: r) i]; show (if c = 34 then _ else if c = 10 then _ else if c = 92 then _ else _) = _; rw [if_neg h1, if_neg h2, if_neg h3]
theorem esc_mem (c : Nat) : decide ((⟨#[c]⟩ : Str) ∈ (["\"", "\\", "n", "t"] : List Str)) = escC c := by
  unfold escC
  rw [← Bool.decide_or, ← Bool.decide_or, ← Bool.decide_or]
  refine decide_eq_decide.mpr ?_
  simp only [List.mem_cons, List.not_mem_nil, or_false]
  have e : ∀ (a : Nat), ((⟨#[c]⟩ : Str) = (⟨#[a]⟩ : Str)) ↔ c = a := fun a => ⟨fun h => by injection h with h; injection h with h; injection h, fun h => by rw [h]⟩
  exact or_congr (e 34) (or_congr (e 92) (or_congr (e 110) (e 116)))
/-- what the quote that opens at i tells -/
def spQuo : Sp := fun vs H Q _ => ∃ (t : Str) (i : Nat), vs = [.str t, .int i] ∧ t.length ≤ sizeLine ∧ i < t.length ∧ ∀ H', Same H H' → Q (optV (quoE (t.cps.toList.drop (i + 1)) (i + 1))) H'
theorem c_l_quote_end (T : Txt K mg w) : Cal P w K mg base 1 "_law_quote_end" spQuo [] := by
  refine calOf T.d_l_quote_end sc_l_quote_end (fun vs H Q E h => ?_) (fun f cdv A outer s H vs Q E hr h => ?_)
  · obtain ⟨t, i, rfl, _⟩ := h
    rfl
  · obtain ⟨t, i, rfl, hz, hi, k⟩ := h
    refine ⟨_,
      (pss_cons (ps_aug (i := 1) sc_l_quote_end.nd rfl (Or.inl rfl) pe_int ip_add)
        (pss_cons (ps_while PassesOwn.never (PW.pt (pw_and (pt_cmpR op_lt (pv 1) (pe_callB call_len (by rfl) T.n_len PySem.boot_len (pa_cons (pv 0) pa_nil)) (nomark _)) (pw_and1 (pt_cmpR op_notIn_sign (pe_ix ix_str (pv 0) (pv 1) (fun _ _ => rfl)) pe_str (by rfl)))))
        (pss_cons (ps_if (pt_cmpR op_eq (pe_ix ix_str (pv 0) (pv 1) (fun _ _ => rfl)) pe_str (nomark _))
        (pss_cons (ps_if (pt_cmpR op_notIn_seq (pe_slice sl_str (pv 0) (po_some (pe_op op_add (pv 1) pe_int)) (po_some (pe_op op_add (pv 1) pe_int))) (pe_tup (pa_cons pe_str (pa_cons pe_str (pa_cons pe_str (pa_cons pe_str pa_nil))))) (by rfl))
        (pss_one (ps_ret pe_non))
        pss_nil)
        (pss_one (ps_aug (i := 1) sc_l_quote_end.nd rfl (Or.inl rfl) pe_int ip_add)))
        pss_nil)
        (pss_one (ps_aug (i := 1) sc_l_quote_end.nd rfl (Or.inl rfl) pe_int ip_add))))
        (pss_one (ps_ret (pe_ifExp (pt_cmpR op_eq (pe_slice sl_str (pv 0) (po_some (pv 1)) (po_some (pe_op op_add (pv 1) pe_int))) pe_str (nomark _)) (pe_op op_add (pv 1) pe_int) pe_non)))))
      , ?_⟩
    refine ⟨_, rfl, _, _, rfl, rfl, ?_⟩
    generalize hq : quoE (t.cps.toList.drop (i + 1)) (i + 1) = want at k
    refine ⟨fun m σ' H' => ∃ j : Nat, σ' = [some (.str t), some (.int j)] ∧ Same H H' ∧ j ≤ t.length ∧ quoE (t.cps.toList.drop j) j = want ∧ m = t.length - j,
      ⟨_, i + 1, rfl, Same.refl _, hi, hq, rfl⟩, ?_⟩
    -- the row behind the loop
    have fin : ∀ (j : Nat) (H' : Hp), Same H H' → j ≤ t.length → quoE (t.cps.toList.drop j) j = want → (j < t.length → ∃ c, t.cps.toList[j]? = some c ∧ (c = 34 ∨ c = 10)) →
        (if decide (V.str (cutS t (some (j : Int)) (some ((j + 1 : Nat) : Int))) = V.str "\"") = true then Q (.int (j + 1 : Nat)) H' else Q .non H') := by
      intro j H' sm hj hw hc
      rw [cut2 t (Nat.le_add_right j 1), str_ofL, Nat.add_sub_cancel_left, take1]
      by_cases hl : j < t.length
      · obtain ⟨c, e, hc⟩ := hc hl
        rw [drop_at e] at hw
        rw [e]
        rcases hc with rfl | rfl
        · rw [quo_34] at hw
          subst hw
          rw [if_pos (by decide +kernel)]
          exact k _ sm
        · rw [quo_10] at hw
          subst hw
          rw [if_neg (by decide +kernel)]
          exact k _ sm
      · have hge : t.cps.toList.length ≤ j := by
          rw [← str_len]
          omega
        rw [List.drop_eq_nil_iff.mpr hge] at hw
        rw [List.getElem?_eq_none_iff.mpr hge, if_neg (by decide +kernel)]
        have hw : none = want := by rw [← hw]; unfold quoE; rfl
        subst hw
        exact k _ sm
    rintro m σ' H' ⟨j, rfl, sm, hj, hw, rfl⟩
    refine ⟨_, rfl, _, rfl, _, t.length, rfl, ⟨hz, rfl⟩, _, _, rfl, rfl, _, rfl, ?_⟩
    refine ite2 (fun h1 => ?_) (fun h1 => ?_)
    · have hlt : j < t.length := by
        have := of_decide_eq_true h1
        omega
      obtain ⟨c, hc⟩ := at_lt hlt
      refine ⟨_, rfl, _, rfl, _, _, c, rfl, rfl, hz, atI_nat hc, c, _, rfl, rfl, _, rfl, ?_⟩
      refine ite2 (fun h2 => ?_) (fun h2 => ?_)
      · have n34 : c ≠ 34 ∧ c ≠ 10 := by
          have h2' : (!decide (c ∈ [34, 10])) = true := h2
          refine ⟨?_, ?_⟩ <;> rintro rfl <;> exact absurd h2' (by decide)
        refine ⟨fun σ' H' => ∃ m', m' < t.length - j ∧ ∃ j : Nat, σ' = [some (.str t), some (.int j)] ∧ Same H H' ∧ j ≤ t.length ∧ quoE (t.cps.toList.drop j) j = want ∧ m' = t.length - j, fun _ _ h => h, ?_⟩
        refine ⟨_, rfl, _, rfl, _, _, c, rfl, rfl, hz, atI_nat hc, rfl, _, rfl, ?_⟩
        rw [show decide (V.str ⟨#[c]⟩ = V.str "\\") = decide (c = 92) from eq_one 92 c]
        rw [drop_at hc] at hw
        refine ite2 (fun h3 => ?_) (fun h3 => ?_)
        · have e92 := of_decide_eq_true h3
          subst e92
          refine ⟨_, rfl, _, rfl, _, _, rfl, rfl, _, rfl, _, rfl, _, _, rfl, rfl, _, rfl, _, rfl, hz, (by show 4 ≤ sizeLine; decide), fun p hp => ⟨_, _, rfl, .inr (SqT.of upd_same), rfl, rfl, _, rfl, ?_⟩⟩
          have sm2 := sm.trans (same_new (o := .tup [.str "\"", .str "\\", .str "n", .str "t"]) hp)
          have ei : inV (.str (cutS t (some ((j + 1 : Nat) : Int)) (some ((j + 2 : Nat) : Int)))) ((["\"", "\\", "n", "t"] : List Str).map V.str) = (t.cps.toList[j + 1]?.any escC) := by
            rw [inV_strs, cut2 t (by omega), show j + 2 - (j + 1) = 1 by omega, take1]
            cases e : t.cps.toList[j + 1]? with
            | none => decide +kernel
            | some d => exact esc_mem d
          refine ite2 (fun h4 => ?_) (fun h4 => ?_)
          · have h4' : (!inV (.str (cutS t (some ((j + 1 : Nat) : Int)) (some ((j + 2 : Nat) : Int)))) ((["\"", "\\", "n", "t"] : List Str).map V.str)) = true := h4
            rw [ei] at h4'
            have hw : none = want := by
              rw [← hw]
              cases e : t.cps.toList[j + 1]? with
              | none =>
                rw [List.drop_eq_nil_iff.mpr (List.getElem?_eq_none_iff.mp e), quo_92]
              | some d =>
                rw [e] at h4'
                have : escC d = false := by
                  cases q : escC d with
                  | false => rfl
                  | true =>
                    rw [show (some d : Option Nat).any escC = escC d from rfl, q] at h4'
                    cases h4'
                rw [drop_at e, quo_esc, this] <;> rfl
            subst hw
            exact k _ sm2
          · have h4' : ¬ (!inV (.str (cutS t (some ((j + 1 : Nat) : Int)) (some ((j + 2 : Nat) : Int)))) ((["\"", "\\", "n", "t"] : List Str).map V.str)) = true := h4
            rw [ei] at h4'
            cases e : t.cps.toList[j + 1]? with
            | none =>
              rw [e] at h4'
              exact absurd rfl h4'
            | some d =>
              rw [e] at h4'
              have hd : escC d = true := by
                cases q : escC d with
                | true => rfl
                | false =>
                  rw [show (some d : Option Nat).any escC = escC d from rfl, q] at h4'
                  exact absurd rfl h4'
              have l2 : j + 1 < t.length := by
                rw [str_len]
                exact len_at e
              rw [drop_at e, quo_esc, if_pos hd] at hw
              refine ⟨_, rfl, _, _, rfl, rfl, ?_⟩
              refine ⟨_, rfl, _, _, rfl, rfl, ?_⟩
              exact ⟨_, (by omega : t.length - (j + 2) < t.length - j), j + 2, rfl, sm2, by omega, hw, rfl⟩
        · have n92 : c ≠ 92 := fun q => h3 (decide_eq_true q)
          rw [quo_on _ _ n34.1 n34.2 n92] at hw
          refine ⟨_, rfl, _, _, rfl, rfl, ?_⟩
          exact ⟨_, (by omega : t.length - (j + 1) < t.length - j), j + 1, rfl, sm, by omega, hw, rfl⟩
      · have c2 : c = 34 ∨ c = 10 := by
          have h2' : ¬ (!decide (c ∈ [34, 10])) = true := h2
          by_cases q : c ∈ [34, 10]
          · simpa using q
          · exact absurd (by rw [decide_eq_false q]; rfl) h2'
        refine ⟨_, rfl, _, rfl, _, rfl, _, rfl, _, _, rfl, rfl, _, rfl, _, rfl, hz, rfl, _, rfl, ?_⟩
        exact ite_map (fin j H' sm hj hw fun _ => ⟨c, hc, c2⟩) (fun q => ⟨_, rfl, _, _, rfl, rfl, q⟩) id
    · have hge : ¬ j < t.length := fun q => h1 (decide_eq_true (by omega))
      refine iteF ?_
      refine ⟨_, rfl, _, rfl, _, rfl, _, rfl, _, _, rfl, rfl, _, rfl, _, rfl, hz, rfl, _, rfl, ?_⟩
      exact ite_map (fin j H' sm hj hw fun q => absurd q hge) (fun q => ⟨_, rfl, _, _, rfl, rfl, q⟩) id

open LamX (CodeO TabS Tabs ExtN TabB)
theorem one_lamO {k : Nat} {q p : Str} {ar : Arguments} {bd : Expr} {sc : Scope} {N : List Str} {sp : Sp} {f c : Addr} {H1 : Hp} (_ : H1 f = some (LamO f c q ar bd sc))
    (S : FnScope N [p] sc) (nc : ∀ y ∈ sc.names, y.2 ≠ .cell)
    (bind : ∀ (pm ct u : Value), bindArgs (PySem.W.kla_fn "<lambda>" q ar bd sc [] pm (.ref c) ct) ⟨[u], []⟩ = pure [(p, u)])
    (body : ∀ (A : Around) (outer : List Env) (s : Shared) (H : Hp) (v : V) (Q : VK) (E : XK),
      Room k (A.deeper (envOfC q sc s.heap.objs.size f (.ref c))) → sp [v] H Q E →
      ∃ te : TE, PE (cxOf CX0 P w K mg base N q sc f (.ref c) A outer s H E).nox bd te ∧ te (start N [v]) H Q) :
    One P w K mg base (k + 1) f fun vs H Q E => H f = some (LamO f c q ar bd sc) ∧ H c = some (CodeO c q) ∧ sp vs H Q E := one_lam f c S nc bind body
theorem callee_def {x : Str} {st : Stmt} {ps : List Str} {f : Addr} {H : Hp} (D : DefIn K mg x st ps) (hm : mg x = some (.ref f)) : Callee K H f := by
  obtain ⟨f', fd, F, hm', _⟩ := D.ex
  rw [hm] at hm'
  cases hm'
  obtain ⟨oc, od, kV, doc, pm, an, cdv, ct, osl, _, e, _⟩ := F.ex
  exact .inl ⟨_, _, _, _, e⟩
abbrev lamQ : Str := "_law_word_end" ++ ".<locals>." ++ "<lambda>"
abbrev tbl (tp : Addr) : List (Addr × Str) := [(tp, lamQ)]
theorem Same.ext {H H' : Hp} (s : Same H H') : ExtN H H' := ExtN.of s
theorem Tabs.same {L : List (Addr × Str)} {H H' : Hp} (t : Tabs L H) (s : Same H H') : Tabs L H' := t.ext s
theorem cut_n (t : Str) (i n : Nat) (z : Str) : decide (V.str (cutS t (some (i : Int)) (some ((i + n : Nat) : Int))) = V.str z) = decide ((t.cps.toList.drop i).take n = z.cps.toList) := by
  rw [cut2 t (Nat.le_add_right i n), str_ofL, Nat.add_sub_cancel_left]
theorem cut_one (t : Str) (i a : Nat) : decide (V.str (cutS t (some (i : Int)) (some ((i + 1 : Nat) : Int))) = V.str ⟨#[a]⟩) = decide (t.cps.toList[i]? = some a) := by
  rw [cut_n, take1]
  cases t.cps.toList[i]? with
  | none => exact (decide_eq_false (fun h => by have h : ([] : List Nat) = [a] := h; cases h)).trans (decide_eq_false (by simp)).symm
  | some c =>
    refine decide_eq_decide.mpr ⟨fun h => ?_, fun h => ?_⟩
    · have h : [c] = [a] := h
      cases h
      rfl
    · cases h
      rfl
theorem cut_l (t : Str) (i n : Nat) (l : List Nat) : decide (V.str (cutS t (some (i : Int)) (some ((i + n : Nat) : Int))) = V.str ⟨l.toArray⟩) = decide ((t.cps.toList.drop i).take n = l) := cut_n t i n ⟨l.toArray⟩
theorem cls_k {Q : VK} {H : Hp} {e : Int} {n : Nat} (k : Q (optV (if e < 0 then none else some (e.toNat + n))) H) :
    if decide ((0 : Int) ≤ e) = true then Q (.int (e + n)) H else Q .non H := by
  by_cases h : e < 0
  · rw [if_pos h] at k
    rw [if_neg (by rw [decide_eq_false (by omega)]; decide)]
    exact k
  · rw [if_neg h] at k
    rw [if_pos (decide_eq_true (by omega))]
    obtain ⟨m, rfl⟩ := Int.eq_ofNat_of_zero_le (Int.not_lt.mp h)
    exact k
theorem two_mem (l : List Nat) : decide ((⟨l.toArray⟩ : Str) ∈ (["==", "!=", "<=", ">=", "->"] : List Str)) = decide (l ∈ twoL) := by
  refine decide_eq_decide.mpr ?_
  unfold twoL
  simp only [List.mem_cons, List.not_mem_nil, or_false, ofL_iff]
  exact Iff.rfl
theorem wrd_at {t : Str} {i c : Nat} (hc : t.cps.toList[i]? = some c) : wrdE t i =
    if letC c then some (runE wrdC t.cps.toList i)
    else if digC c then some (numE t.cps.toList i)
    else if c = 34 then quoE (t.cps.toList.drop (i + 1)) (i + 1)
    else if c = 39 then (if (t.cps.toList.drop i).take 3 = [39, 39, 39] then clsE t "'''" (i + 3) else none)
    else if c = 35 then some (runE notNl t.cps.toList i)
    else if (t.cps.toList.drop i).take 2 = [60, 42] then clsE t "*>" (i + 2)
    else if (t.cps.toList.drop i).take 2 ∈ twoL then some (i + 2)
    else if c ∈ oneL then some (i + 1) else none := by
  unfold wrdE
  rw [hc]
/-- the end of the word at i -/
def spWE (tp : Addr) : Sp := fun vs H Q _ => ∃ (t : Str) (i : Nat), vs = [.str t, .int i] ∧ t.length ≤ sizeLine ∧ i < t.length ∧ Tabs (tbl tp) H ∧
  ∀ H', ExtN H H' → Tabs (tbl tp) H' → Q (optV (wrdE t i)) H'
theorem c_l_word_end (T : Txt K mg w) {c tp : Addr} (D : DefC K mg "_law_word_end" s_l_word_end ["_law_text", "_law_at"] (.ref c)) (TB : TabB base mg c tp)
    (c_l_is_letter : Cal P w K mg base 1 "_law_is_letter" (spSg letC) []) (c_l_is_digit : Cal P w K mg base 1 "_law_is_digit" (spSg digC) [])
    (c_l_run : Cal P w K mg base 3 "_law_run" (spRun P w K mg base) []) (c_l_quote_end : Cal P w K mg base 1 "_law_quote_end" spQuo []) :
    Cal P w K mg base 4 "_law_word_end" (spWE tp) [] := by
  obtain ⟨f_l_is_digit, m_l_is_digit, _, O_dig⟩ := one_def c_l_is_digit
  refine calOfC D sc_l_word_end (fun vs H Q E h => ?_) (fun f A outer s H vs Q E hr h => ?_)
  · obtain ⟨t, i, rfl, _⟩ := h
    rfl
  · obtain ⟨t, i, rfl, hz, hi, tb, k⟩ := h
    refine ⟨_,
      (pss_cons (ps_set (i := 2) sc_l_word_end.nd rfl (Or.inl rfl) (pe_ix ix_str (pv 0) (pv 1) (fun _ _ => rfl)))
        (pss_cons (ps_if (pt_val (pe_c c_l_is_letter hr (by first | decide | omega) rfl (pa_cons (pv 2) pa_nil)))
        (pss_one (ps_ret (pe_c c_l_run hr (by first | decide | omega) rfl (pa_cons (pv 0) (pa_cons (pv 1) (pa_cons (pe_lam TB rfl (List.mem_singleton.mpr rfl) (fun p h _ => by rw [List.mem_singleton.mp h]) rfl (by decide +kernel) rfl) pa_nil))))))
        pss_nil)
        (pss_cons (ps_if (pt_val (pe_c c_l_is_digit hr (by first | decide | omega) rfl (pa_cons (pv 2) pa_nil)))
        (pss_cons (ps_set (i := 3) sc_l_word_end.nd rfl (Or.inl rfl) (pe_c c_l_run hr (by first | decide | omega) rfl (pa_cons (pv 0) (pa_cons (pv 1) (pa_cons (pe_gc (v := V.ref f_l_is_digit) rfl ⟨_, m_l_is_digit, rfl⟩) pa_nil)))))
        (pss_cons (ps_set (i := 4) sc_l_word_end.nd rfl (Or.inl rfl) (pe_ifExp (pt_cmpR op_eq (pe_slice sl_str (pv 0) (po_some (pv 3)) (po_some (pe_op op_add (pv 3) pe_int))) pe_str (nomark _)) (pe_c c_l_run hr (by first | decide | omega) rfl (pa_cons (pv 0) (pa_cons (pe_op op_add (pv 3) pe_int) (pa_cons (pe_gc (v := V.ref f_l_is_digit) rfl ⟨_, m_l_is_digit, rfl⟩) pa_nil)))) (pv 3)))
        (pss_one (ps_ret (pe_ifExp (pt_cmpR op_gt (pv 4) (pe_op op_add (pv 3) pe_int) (nomark _)) (pv 4) (pv 3))))))
        pss_nil)
        (pss_cons (ps_if (pt_cmpR op_eq (pv 2) pe_str (nomark _))
        (pss_one (ps_ret (pe_c c_l_quote_end hr (by first | decide | omega) rfl (pa_cons (pv 0) (pa_cons (pv 1) pa_nil)))))
        pss_nil)
        (pss_cons (ps_if (pt_cmpR op_eq (pv 2) pe_str (nomark _))
        (pss_cons (ps_set (i := 3) sc_l_word_end.nd rfl (Or.inl rfl) (pe_ifExp (pt_cmpR op_eq (pe_slice sl_str (pv 0) (po_some (pv 1)) (po_some (pe_op op_add (pv 1) pe_int))) pe_str (nomark _)) (pe_bm PySem.F.plainAttrs_str PySem.F.slot_str_find PySem.F.type_str_find mt_find3 (pv 0) (pa_cons pe_str (pa_cons (pe_op op_add (pv 1) pe_int) pa_nil))) (pe_un un_neg pe_int)))
        (pss_one (ps_ret (pe_ifExp (pt_cmpR op_ge (pv 3) pe_int (nomark _)) (pe_op op_add (pv 3) pe_int) pe_non))))
        pss_nil)
        (pss_cons (ps_if (pt_cmpR op_eq (pv 2) pe_str (nomark _))
        (pss_one (ps_ret (pe_c c_l_run hr (by first | decide | omega) rfl (pa_cons (pv 0) (pa_cons (pv 1) (pa_cons (pe_lam TB rfl (List.mem_singleton.mpr rfl) (fun p h _ => by rw [List.mem_singleton.mp h]) rfl (by decide +kernel) rfl) pa_nil))))))
        pss_nil)
        (pss_cons (ps_if (pt_cmpR op_eq (pe_slice sl_str (pv 0) (po_some (pv 1)) (po_some (pe_op op_add (pv 1) pe_int))) pe_str (nomark _))
        (pss_cons (ps_set (i := 3) sc_l_word_end.nd rfl (Or.inl rfl) (pe_bm PySem.F.plainAttrs_str PySem.F.slot_str_find PySem.F.type_str_find mt_find3 (pv 0) (pa_cons pe_str (pa_cons (pe_op op_add (pv 1) pe_int) pa_nil))))
        (pss_one (ps_ret (pe_ifExp (pt_cmpR op_ge (pv 3) pe_int (nomark _)) (pe_op op_add (pv 3) pe_int) pe_non))))
        pss_nil)
        (pss_cons (ps_if (pt_cmpR op_in_seq (pe_slice sl_str (pv 0) (po_some (pv 1)) (po_some (pe_op op_add (pv 1) pe_int))) (pe_tup (pa_cons pe_str (pa_cons pe_str (pa_cons pe_str (pa_cons pe_str (pa_cons pe_str pa_nil)))))) (by rfl))
        (pss_one (ps_ret (pe_op op_add (pv 1) pe_int)))
        pss_nil)
        (pss_one (ps_ret (pe_ifExp (pt_cmpR op_in_sign (pv 2) pe_str (by rfl)) (pe_op op_add (pv 1) pe_int) pe_non)))))))))))
      , ?_⟩
    obtain ⟨ch, hc⟩ := at_lt hi
    rw [wrd_at hc] at k
    refine ⟨_, rfl, _, rfl, _, _, ch, rfl, rfl, hz, atI_nat hc, ?_⟩
    refine ⟨_, rfl, ch, rfl, _, rfl, ?_⟩
    refine ite2 (fun h1 => ?_) (fun h1 => ?_)
    · rw [if_pos h1] at k
      refine ⟨_, rfl, _, rfl, tb, fun f1 c1 H1 ext tb1 hf hc1 hn hcn => ?_⟩
      refine ⟨t, i, f1, wrdC, _, rfl, hz, one_lamO (sp := spSg wrdC) (p := "_law_one_here") (N := ["_law_one_here"]) hf ⟨rfl, rfl, rfl, by decide +kernel, rfl, by decide +kernel, by decide +kernel⟩ (by decide +kernel) (fun _ _ _ => rfl) ?_, .inr ⟨c1, _, _, _, _, hf⟩, fun d Q' E' q => ⟨hf, hc1, d, rfl, q⟩, k _ ext tb1⟩
      rintro A outer s H v Q E hr ⟨d, e, q⟩
      cases e
      refine ⟨_, (pe_or (pe_c c_l_is_letter hr (by first | decide | omega) rfl (pa_cons (pv 0) pa_nil)) (pe_one (pe_c c_l_is_digit hr (by first | decide | omega) rfl (pa_cons (pv 0) pa_nil)))), ?_⟩
      refine ⟨_, rfl, d, rfl, _, rfl, ?_⟩
      unfold wrdC at q
      refine ite2 (fun h2 => ?_) (fun h2 => ?_)
      · rw [h2, Bool.true_or] at q
        exact q
      · rw [Bool.eq_false_iff.mpr h2, Bool.false_or] at q
        exact ⟨_, rfl, d, rfl, q⟩
    · rw [if_neg h1] at k
      refine ⟨_, rfl, ch, rfl, _, rfl, ?_⟩
      refine ite2 (fun h2 => ?_) (fun h2 => ?_)
      · rw [if_pos h2] at k
        refine ⟨_, rfl, _, rfl, t, i, f_l_is_digit, digC, _, rfl, hz, One.mono O_dig (by decide), callee_def T.d_l_is_digit m_l_is_digit, fun d Q' E' q => ⟨d, rfl, q⟩, ?_⟩
        have k := k _ (Same.ext (Same.refl _)) tb
        unfold numE at k
        generalize runE digC t.cps.toList i = e at k
        refine ⟨_, rfl, _, rfl, _, rfl, _, rfl, _, _, rfl, rfl, _, rfl, _, rfl, hz, rfl, _, rfl, ?_⟩
        refine ite2 (fun h3 => ?_) (fun h3 => ?_)
        · rw [if_pos (of_decide_eq_true ((cut_one t e 46).symm.trans h3))] at k
          refine ⟨_, rfl, _, rfl, _, _, rfl, rfl, t, e + 1, f_l_is_digit, digC, _, rfl, hz, One.mono O_dig (by decide), callee_def T.d_l_is_digit m_l_is_digit, fun d Q' E' q => ⟨d, rfl, q⟩, ?_⟩
          generalize runE digC t.cps.toList (e + 1) = e2 at k
          refine ⟨_, rfl, _, rfl, _, _, rfl, rfl, _, _, rfl, rfl, _, rfl, ?_⟩
          refine ite2 (fun h4 => ?_) (fun h4 => ?_)
          · rw [if_pos (by have := of_decide_eq_true h4; omega)] at k
            exact ⟨_, rfl, k⟩
          · rw [if_neg (fun z => h4 (decide_eq_true (by omega)))] at k
            exact ⟨_, rfl, k⟩
        · rw [if_neg (fun z => h3 ((cut_one t e 46).trans (decide_eq_true z)))] at k
          refine ⟨_, rfl, ?_⟩
          refine ⟨_, rfl, _, rfl, _, _, rfl, rfl, _, _, rfl, rfl, _, rfl, ?_⟩
          exact ite2 (fun _ => ⟨_, rfl, k⟩) (fun _ => ⟨_, rfl, k⟩)
      · rw [if_neg h2] at k
        refine ⟨_, rfl, rfl, _, rfl, ?_⟩
        rw [show decide (V.str ⟨#[ch]⟩ = V.str "\"") = decide (ch = 34) from eq_one 34 ch]
        refine ite2 (fun h3 => ?_) (fun h3 => ?_)
        · rw [if_pos (of_decide_eq_true h3)] at k
          exact ⟨_, rfl, _, rfl, t, i, rfl, hz, hi, fun H' sm => k _ (Same.ext sm) (Tabs.same tb sm)⟩
        · rw [if_neg (fun z => h3 (decide_eq_true z))] at k
          refine ⟨_, rfl, rfl, _, rfl, ?_⟩
          rw [show decide (V.str ⟨#[ch]⟩ = V.str "'") = decide (ch = 39) from eq_one 39 ch]
          refine ite2 (fun h4 => ?_) (fun h4 => ?_)
          · rw [if_pos (of_decide_eq_true h4)] at k
            have k := k _ (Same.ext (Same.refl _)) tb
            refine ⟨_, rfl, _, rfl, _, rfl, _, rfl, _, _, rfl, rfl, _, rfl, _, rfl, hz, rfl, _, rfl, ?_⟩
            refine ite2 (fun h5 => ?_) (fun h5 => ?_)
            · have q3 : (t.cps.toList.drop i).take 3 = [39, 39, 39] := of_decide_eq_true ((cut_l t i 3 [39, 39, 39]).symm.trans h5)
              rw [if_pos q3] at k
              refine ⟨_, rfl, rfl, _, rfl, _, _, rfl, rfl, ?_⟩
              refine ⟨_, _, _, rfl, rfl, ?_⟩
              refine ⟨_, rfl, _, _, rfl, rfl, _, rfl, ?_⟩
              exact ite_map (cls_k (n := 3) k) (fun q => ⟨_, rfl, _, _, rfl, rfl, q⟩) id
            · rw [if_neg (fun z => h5 ((cut_l t i 3 [39, 39, 39]).trans (decide_eq_true z)))] at k
              refine ⟨_, rfl, ?_⟩
              refine ⟨_, rfl, _, _, rfl, rfl, _, rfl, ?_⟩
              exact k
          · rw [if_neg (fun z => h4 (decide_eq_true z))] at k
            refine ⟨_, rfl, rfl, _, rfl, ?_⟩
            rw [show decide (V.str ⟨#[ch]⟩ = V.str "#") = decide (ch = 35) from eq_one 35 ch]
            refine ite2 (fun h5 => ?_) (fun h5 => ?_)
            · rw [if_pos (of_decide_eq_true h5)] at k
              refine ⟨_, rfl, _, rfl, tb, fun f1 c1 H1 ext tb1 hf hc1 hn hcn => ?_⟩
              refine ⟨t, i, f1, notNl, _, rfl, hz, one_lamO (k := 1) (sp := spSg notNl) (p := "_law_one_here") (N := ["_law_one_here"]) hf ⟨rfl, rfl, rfl, by decide +kernel, rfl, by decide +kernel, by decide +kernel⟩ (by decide +kernel) (fun _ _ _ => rfl) ?_, .inr ⟨c1, _, _, _, _, hf⟩, fun d Q' E' q => ⟨hf, hc1, d, rfl, q⟩, k _ ext tb1⟩
              rintro A outer s H v Q E hr ⟨d, e, q⟩
              cases e
              refine ⟨_, (pe_cmpR op_ne (pv 0) pe_str (nomark _)), ?_⟩
              refine ⟨_, rfl, ?_⟩
              unfold notNl at q
              rw [← eq_one 10 d] at q
              exact ⟨rfl, q⟩
            · rw [if_neg (fun z => h5 (decide_eq_true z))] at k
              refine ⟨_, rfl, _, rfl, _, rfl, _, rfl, _, _, rfl, rfl, _, rfl, _, rfl, hz, rfl, _, rfl, ?_⟩
              refine ite2 (fun h6 => ?_) (fun h6 => ?_)
              · have q3 : (t.cps.toList.drop i).take 2 = [60, 42] := of_decide_eq_true ((cut_l t i 2 [60, 42]).symm.trans h6)
                have k := k _ (Same.ext (Same.refl _)) tb
                rw [if_pos q3] at k
                refine ⟨_, rfl, rfl, _, rfl, _, _, rfl, rfl, ?_⟩
                refine ⟨_, _, _, rfl, rfl, ?_⟩
                refine ⟨_, rfl, _, _, rfl, rfl, _, rfl, ?_⟩
                exact ite_map (cls_k (n := 2) k) (fun q => ⟨_, rfl, _, _, rfl, rfl, q⟩) id
              · rw [if_neg (fun z => h6 ((cut_l t i 2 [60, 42]).trans (decide_eq_true z)))] at k
                refine ⟨_, rfl, _, rfl, _, rfl, _, rfl, _, _, rfl, rfl, _, rfl, _, rfl, hz, (by show 5 ≤ sizeLine; decide), fun p hp => ⟨_, _, rfl, .inr (SqT.of upd_same), rfl, rfl, _, rfl, ?_⟩⟩
                have sm2 := same_new (o := .tup [.str "==", .str "!=", .str "<=", .str ">=", .str "->"]) hp
                have ei : inV (.str (cutS t (some (i : Int)) (some ((i + 2 : Nat) : Int)))) ((["==", "!=", "<=", ">=", "->"] : List Str).map V.str) = decide ((t.cps.toList.drop i).take 2 ∈ twoL) := by
                  rw [inV_strs, cut2 t (by omega), Nat.add_sub_cancel_left]
                  exact two_mem _
                refine ite2 (fun h7 => ?_) (fun h7 => ?_)
                · rw [if_pos (of_decide_eq_true (ei.symm.trans h7))] at k
                  exact ⟨_, rfl, _, _, rfl, rfl, k _ (Same.ext sm2) (Tabs.same tb sm2)⟩
                · rw [if_neg (fun z => h7 (ei.trans (decide_eq_true z)))] at k
                  have k := k _ (Same.ext sm2) (Tabs.same tb sm2)
                  refine ⟨_, rfl, ch, _, rfl, rfl, _, rfl, ?_⟩
                  refine ite2 (fun h8 => ?_) (fun h8 => ?_)
                  · have q8 : ch ∈ oneL := of_decide_eq_true h8
                    rw [if_pos q8] at k
                    exact ⟨_, rfl, _, _, rfl, rfl, k⟩
                  · have q8 : ¬ ch ∈ oneL := fun z => h8 (decide_eq_true (p := ch ∈ oneL) z)
                    rw [if_neg q8] at k
                    exact k

open PySem.Builtin PySem.Builtin.Str PySem.StrLaws in
theorem sub_iff (t y : Str) (k : Nat) : subAt t y k = true ↔ (t.cps.toList.drop k).take y.length = y.cps.toList := by
  unfold subAt
  rw [beq_iff_eq]
  constructor
  · intro h
    have := congrArg Array.toList h
    rw [Array.toList_extract, List.extract_eq_take_drop, Nat.add_sub_cancel_left] at this
    exact this
  · intro h
    refine Array.toList_inj.mp ?_
    rw [Array.toList_extract, List.extract_eq_take_drop, Nat.add_sub_cancel_left]
    exact h
theorem hit_iff {t y : Str} {k : Nat} (hy : 0 < y.length) : HitAt t y t.length k ↔ (t.cps.toList.drop k).take y.length = y.cps.toList := by
  unfold HitAt
  rw [sub_iff]
  refine ⟨fun h => h.2, fun h => ⟨?_, h⟩⟩
  have := take_len h (str_len y).symm hy
  rw [str_len t]
  exact this
theorem hit_nl {t : Str} {k : Nat} : HitAt t "\n" t.length k ↔ t.cps.toList[k]? = some 10 := by
  rw [hit_iff (by decide)]
  show (t.cps.toList.drop k).take 1 = [10] ↔ _
  rw [take1]
  cases t.cps.toList[k]? with
  | none =>
    refine ⟨fun h => ?_, fun h => by cases h⟩
    have h : ([] : List Nat) = [10] := h
    cases h
  | some c =>
    constructor
    · intro h
      have h : [c] = [10] := h
      cases h
      rfl
    · intro h
      cases h
      rfl
theorem run_to {g : Nat → Bool} {L : List Nat} {k : Nat} (hk : k ≤ L.length) (hs : ∀ c, L[k]? = some c → g c = false) :
    ∀ (n i : Nat), n = k - i → i ≤ k → (∀ j c, i ≤ j → j < k → L[j]? = some c → g c = true) → runE g L i = k
  | 0, i, hn, hi, _ => by
    obtain rfl : i = k := by omega
    cases e : L[i]? with
    | none => exact run_end (List.getElem?_eq_none_iff.mp e)
    | some c => exact run_stop e (hs c e)
  | n + 1, i, hn, hi, h => by
    have hl : i < L.length := by omega
    have e : L[i]? = some L[i] := List.getElem?_eq_getElem hl
    rw [run_step e (h i _ (Nat.le_refl _) (by omega) e)]
    exact run_to hk hs n (i + 1) (by omega) (by omega) fun j c h1 h2 => h j c (by omega) h2
theorem nl_find (t : Str) {i : Nat} (hi : i ≤ t.length) : (Txt.find3 t "\n" (i : Int) < 0 → runE notNl t.cps.toList i = t.length) ∧
    (¬ Txt.find3 t "\n" (i : Int) < 0 → Txt.find3 t "\n" (i : Int) = ((runE notNl t.cps.toList i : Nat) : Int)) := by
  have ne : ∀ j c, ¬ HitAt t "\n" t.length j → t.cps.toList[j]? = some c → notNl c = true := fun j c h e => by
    unfold notNl
    by_cases q : c = 10
    · subst q
      exact absurd (hit_nl.mpr e) h
    · rw [decide_eq_false q]
      rfl
  rcases find3_spec t "\n" i with ⟨k, h1, h2, h3, h4⟩ | ⟨h1, h2⟩
  · rw [h1]
    refine ⟨fun z => by omega, fun _ => ?_⟩
    have e := hit_nl.mp h3
    rw [run_to (Nat.le_of_lt (len_at e)) (fun c ec => by rw [e] at ec; cases ec; rfl) (k - i) i rfl h2 fun j c a b => ne j c (h4 j a b)]
  · rw [h1]
    refine ⟨fun _ => ?_, fun z => absurd (by decide) z⟩
    rw [str_len] at hi ⊢
    exact run_to (Nat.le_refl _) (fun c ec => absurd (len_at ec) (Nat.lt_irrefl _)) (t.cps.toList.length - i) i rfl hi fun j c a b => ne j c (h2 j a)
/-- of a text and a place of it -/
def spAt (f : Str → Nat → V) : Sp := fun vs H Q _ => ∃ (t : Str) (i : Nat), vs = [.str t, .int i] ∧ t.length ≤ sizeLine ∧ i < t.length ∧ Q (f t i) H
theorem c_p_line_end (T : Txt K mg w) : Cal P w K mg base 1 "line_end" (spAt fun t i => .int (runE notNl t.cps.toList i)) [] := by
  refine calOf T.d_p_line_end sc_p_line_end (fun vs H Q E h => ?_) (fun f cdv A outer s H vs Q E hr h => ?_)
  · obtain ⟨t, i, rfl, _⟩ := h
    rfl
  · obtain ⟨t, i, rfl, hz, hi, k⟩ := h
    refine ⟨_,
      (pss_cons (ps_set (i := 2) sc_p_line_end.nd rfl (Or.inl rfl) (pe_bm PySem.F.plainAttrs_str PySem.F.slot_str_find PySem.F.type_str_find mt_find3 (pv 0) (pa_cons pe_str (pa_cons (pv 1) pa_nil))))
        (pss_one (ps_ret (pe_ifExp (pt_cmpR op_lt (pv 2) pe_int (nomark _)) (pe_callB call_len (by rfl) T.n_len PySem.boot_len (pa_cons (pv 0) pa_nil)) (pv 2)))))
      , ?_⟩
    refine ⟨_, rfl, rfl, _, rfl, _, _, _, rfl, rfl, ?_⟩
    refine ⟨_, rfl, _, _, rfl, rfl, _, rfl, ?_⟩
    have k : Q (.int (runE notNl t.cps.toList i)) H := k
    obtain ⟨n1, n2⟩ := nl_find t (Nat.le_of_lt hi)
    refine ite2 (fun h1 => ?_) (fun h1 => ?_)
    · have e := n1 (of_decide_eq_true h1)
      refine ⟨_, rfl, _, t.length, rfl, ⟨hz, rfl⟩, ?_⟩
      rw [e] at k
      exact k
    · have e := n2 (fun z => h1 (decide_eq_true z))
      refine ⟨_, rfl, ?_⟩
      rw [← e] at k
      exact k
def inC (z : Str) (c : Nat) : Bool := decide (c ∈ z.cps.toList)
def spRunS : Sp := fun vs H Q _ => ∃ (t : Str) (i : Nat) (z : Str), vs = [.str t, .int i, .str z] ∧ t.length ≤ sizeLine ∧ Q (.int (runE (inC z) t.cps.toList i)) H
theorem c_p_run_end (T : Txt K mg w) : Cal P w K mg base 1 "_run_end" spRunS [] := by
  refine calOf T.d_p_run_end sc_p_run_end (fun vs H Q E h => ?_) (fun f cdv A outer s H vs Q E hr h => ?_)
  · obtain ⟨t, i, z, rfl, _⟩ := h
    rfl
  · obtain ⟨t, i, z, rfl, hz, k⟩ := h
    refine ⟨_,
      (pss_cons (ps_set (i := 3) sc_p_run_end.nd rfl (Or.inl rfl) (pv 1))
        (pss_cons (ps_while PassesOwn.never (PW.pt (pw_and (pt_cmpR op_lt (pv 3) (pe_callB call_len (by rfl) T.n_len PySem.boot_len (pa_cons (pv 0) pa_nil)) (nomark _)) (pw_and1 (pt_cmpR op_in_sign (pe_ix ix_str (pv 0) (pv 3) (fun _ _ => rfl)) (pv 2) (by rfl)))))
        (pss_one (ps_aug (i := 3) sc_p_run_end.nd rfl (Or.inl rfl) pe_int ip_add)))
        (pss_one (ps_ret (pv 3)))))
      , ?_⟩
    generalize hg : inC z = g at k
    refine ⟨_, rfl, ?_⟩
    refine ⟨fun m σ' H' => ∃ j : Nat, σ' = [some (.str t), some (.int i), some (.str z), some (.int j)] ∧ H' = H ∧ i ≤ j ∧ runE g t.cps.toList j = runE g t.cps.toList i ∧ m = t.length - j,
      ⟨_, i, rfl, rfl, Nat.le_refl _, rfl, rfl⟩, ?_⟩
    rintro m σ' H' ⟨j, rfl, rfl, hj, he, rfl⟩
    refine ⟨_, rfl, _, rfl, _, t.length, rfl, ⟨hz, rfl⟩, _, _, rfl, rfl, _, rfl, ?_⟩
    refine ite2 (fun h1 => ?_) (fun h1 => ?_)
    · have hlt : j < t.length := by
        have := of_decide_eq_true h1
        omega
      obtain ⟨c, hc⟩ := at_lt hlt
      refine ⟨_, rfl, _, rfl, _, _, c, rfl, rfl, hz, atI_nat hc, _, rfl, c, _, rfl, rfl, _, rfl, ?_⟩
      refine ite2 (fun h2 => ?_) (fun h2 => ?_)
      · refine ⟨fun σ' H2 => ∃ m', m' < t.length - j ∧ ∃ j : Nat, σ' = [some (.str t), some (.int i), some (.str z), some (.int j)] ∧ H2 = H' ∧ i ≤ j ∧ runE g t.cps.toList j = runE g t.cps.toList i ∧ m' = t.length - j, fun _ _ h => h, ?_⟩
        refine ⟨_, rfl, _, _, rfl, rfl, ?_⟩
        refine ⟨_, (by omega : t.length - (j + 1) < t.length - j), j + 1, rfl, rfl, by omega, ?_, rfl⟩
        rw [← he, run_step hc (by rw [← hg]; exact h2)]
      · refine ⟨_, rfl, ?_⟩
        have e := run_stop (g := g) hc (by rw [← hg]; exact Bool.eq_false_iff.mpr h2)
        rw [← he, e] at k
        exact k
    · have hge : t.cps.toList.length ≤ j := by
        have : ¬ ((j : Int) < (t.length : Int)) := fun q => h1 (decide_eq_true q)
        rw [← str_len]
        omega
      refine iteF ?_
      refine ⟨_, rfl, ?_⟩
      have e := run_end (g := g) hge
      rw [← he, e] at k
      exact k
theorem dig_in : inC "0123456789" = digC := by
  funext c
  by_cases h : c < 128
  · have all : ∀ c, c < 128 → inC "0123456789" c = digC c := by decide +kernel
    exact all c h
  · have e : digC c = false := by
      unfold digC
      rw [decide_eq_false (by omega : ¬ c ≤ 57), Bool.and_false]
    rw [e]
    refine decide_eq_false fun hm => h ?_
    have all : ∀ x ∈ ("0123456789" : Str).cps.toList, x < 128 := by decide +kernel
    exact all c hm
theorem wrd_inC : inC ("ABCDEFGHIJKLMNOPQRSTUVWXYZ_abcdefghijklmnopqrstuvwxyz" ++ "0123456789" : Str) = wrdC := by
  funext c
  by_cases h : c < 128
  · have all : ∀ c, c < 128 → inC ("ABCDEFGHIJKLMNOPQRSTUVWXYZ_abcdefghijklmnopqrstuvwxyz" ++ "0123456789" : Str) c = wrdC c := by decide +kernel
    exact all c h
  · have e : wrdC c = false := by
      unfold wrdC letC digC
      rw [decide_eq_false (by omega : ¬ c ≤ 57), decide_eq_false (by omega : ¬ c ≤ 122), decide_eq_false (by omega : ¬ c ≤ 90), decide_eq_false (by omega : ¬ c = 95)]
      simp
    rw [e]
    refine decide_eq_false fun hm => h ?_
    have all : ∀ x ∈ ("ABCDEFGHIJKLMNOPQRSTUVWXYZ_abcdefghijklmnopqrstuvwxyz" ++ "0123456789" : Str).cps.toList, x < 128 := by decide +kernel
    exact all c hm
theorem let_in : inC "ABCDEFGHIJKLMNOPQRSTUVWXYZ_abcdefghijklmnopqrstuvwxyz" = letC := by
  funext c
  by_cases h : c < 128
  · have all : ∀ c, c < 128 → inC "ABCDEFGHIJKLMNOPQRSTUVWXYZ_abcdefghijklmnopqrstuvwxyz" c = letC c := by decide +kernel
    exact all c h
  · have e : letC c = false := by
      unfold letC
      rw [decide_eq_false (by omega : ¬ c ≤ 122), decide_eq_false (by omega : ¬ c ≤ 90), decide_eq_false (by omega : ¬ c = 95)]
      simp
    rw [e]
    refine decide_eq_false fun hm => h ?_
    have all : ∀ x ∈ ("ABCDEFGHIJKLMNOPQRSTUVWXYZ_abcdefghijklmnopqrstuvwxyz" : Str).cps.toList, x < 128 := by decide +kernel
    exact all c hm

open PySem.Builtin PySem.Builtin.Str PySem.StrLaws in
theorem sw_at {t y : Str} {k : Nat} (hy : 0 < y.length) : Txt.startswith3 t y (k : Int) = decide ((t.cps.toList.drop k).take y.length = y.cps.toList) := by
  unfold Txt.startswith3
  rw [from_nat]
  by_cases h : (t.cps.toList.drop k).take y.length = y.cps.toList
  · rw [decide_eq_true h, (sub_iff t y k).mpr h, Bool.and_true]
    refine decide_eq_true ?_
    have := take_len h (str_len y).symm hy
    rw [str_len t]
    exact this
  · rw [decide_eq_false h, Bool.eq_false_iff.mpr (fun z => h ((sub_iff t y k).mp z)), Bool.and_false]
theorem c_p_number_end (T : Txt K mg w) (c_p_run_end : Cal P w K mg base 1 "_run_end" spRunS []) : Cal P w K mg base 2 "_number_end" (spAt fun t i => .int (numE t.cps.toList i)) [] := by
  refine calOf T.d_p_number_end sc_p_number_end (fun vs H Q E h => ?_) (fun f cdv A outer s H vs Q E hr h => ?_)
  · obtain ⟨t, i, rfl, _⟩ := h
    rfl
  · obtain ⟨t, i, rfl, hz, hi, k⟩ := h
    refine ⟨_,
      (pss_cons (ps_set (i := 2) sc_p_number_end.nd rfl (Or.inl rfl) (pe_c c_p_run_end hr (by first | decide | omega) rfl (pa_cons (pv 0) (pa_cons (pv 1) (pa_cons (pe_gc rfl T.g_DIGITS) pa_nil)))))
        (pss_cons (ps_if (pt_not (pt_val (pe_bm PySem.F.plainAttrs_str PySem.F.slot_str_startswith PySem.F.type_str_startswith mt_startswith3 (pv 0) (pa_cons pe_str (pa_cons (pv 2) pa_nil)))))
        (pss_one (ps_ret (pv 2)))
        pss_nil)
        (pss_cons (ps_set (i := 3) sc_p_number_end.nd rfl (Or.inl rfl) (pe_c c_p_run_end hr (by first | decide | omega) rfl (pa_cons (pv 0) (pa_cons (pe_op op_add (pv 2) pe_int) (pa_cons (pe_gc rfl T.g_DIGITS) pa_nil)))))
        (pss_one (ps_ret (pe_ifExp (pt_cmpR op_gt (pv 3) (pe_op op_add (pv 2) pe_int) (nomark _)) (pv 3) (pv 2)))))))
      , ?_⟩
    have k : Q (.int (numE t.cps.toList i)) H := k
    unfold numE at k
    refine ⟨_, rfl, _, rfl, t, i, _, rfl, hz, ?_⟩
    rw [dig_in]
    generalize runE digC t.cps.toList i = e at k
    have w1 : Txt.startswith3 t "." (e : Int) = decide (t.cps.toList[e]? = some 46) := by
      rw [sw_at (by decide)]
      exact (cut_l t e 1 [46]).symm.trans (cut_one t e 46)
    refine ⟨_, rfl, rfl, _, rfl, _, _, _, rfl, rfl, _, rfl, ?_⟩
    rw [w1]
    refine ite2 (fun h3 => ?_) (fun h3 => ?_)
    · rw [if_neg (fun z => by rw [decide_eq_true z] at h3; cases h3)] at k
      exact ⟨_, rfl, k⟩
    · have q : t.cps.toList[e]? = some 46 := by
        by_cases z : t.cps.toList[e]? = some 46
        · exact z
        · exact absurd (by rw [decide_eq_false z]; rfl) h3
      rw [if_pos q] at k
      refine ⟨_, rfl, _, rfl, _, _, rfl, rfl, t, e + 1, _, rfl, hz, ?_⟩
      rw [dig_in]
      generalize runE digC t.cps.toList (e + 1) = e2 at k
      refine ⟨_, rfl, _, rfl, _, _, rfl, rfl, _, _, rfl, rfl, _, rfl, ?_⟩
      refine ite2 (fun h4 => ?_) (fun h4 => ?_)
      · rw [if_pos (by have := of_decide_eq_true h4; omega)] at k
        exact ⟨_, rfl, k⟩
      · rw [if_neg (fun z => h4 (decide_eq_true (by omega)))] at k
        exact ⟨_, rfl, k⟩
def spCls : Sp := fun vs H Q _ => ∃ (t : Str) (i : Nat) (a b : Str), vs = [.str t, .int i, .str a, .str b] ∧ a.length ≤ sizeLine ∧ b.length ≤ sizeLine ∧ Q (optV (clsE t b (i + a.length))) H
theorem cls_k2 {Q : VK} {H : Hp} {e : Int} {n : Nat} (k : Q (optV (if e < 0 then none else some (e.toNat + n))) H) :
    if decide (e < (0 : Int)) = true then Q .non H else Q (.int (e + n)) H := by
  by_cases h : e < 0
  · rw [if_pos h] at k
    rw [if_pos (decide_eq_true h)]
    exact k
  · rw [if_neg h] at k
    rw [if_neg (by rw [decide_eq_false h]; decide)]
    obtain ⟨m, rfl⟩ := Int.eq_ofNat_of_zero_le (Int.not_lt.mp h)
    exact k
theorem c_p_closed_end (T : Txt K mg w) : Cal P w K mg base 1 "_closed_end" spCls [] := by
  refine calOf T.d_p_closed_end sc_p_closed_end (fun vs H Q E h => ?_) (fun f cdv A outer s H vs Q E hr h => ?_)
  · obtain ⟨t, i, a, b, rfl, _⟩ := h
    rfl
  · obtain ⟨t, i, a, b, rfl, ha, hb, k⟩ := h
    refine ⟨_,
      (pss_cons (ps_set (i := 4) sc_p_closed_end.nd rfl (Or.inl rfl) (pe_bm PySem.F.plainAttrs_str PySem.F.slot_str_find PySem.F.type_str_find mt_find3 (pv 0) (pa_cons (pv 3) (pa_cons (pe_op op_add (pv 1) (pe_callB call_len (by rfl) T.n_len PySem.boot_len (pa_cons (pv 2) pa_nil))) pa_nil))))
        (pss_one (ps_ret (pe_ifExp (pt_cmpR op_lt (pv 4) pe_int (nomark _)) pe_non (pe_op op_add (pv 4) (pe_callB call_len (by rfl) T.n_len PySem.boot_len (pa_cons (pv 3) pa_nil)))))))
      , ?_⟩
    refine ⟨_, rfl, rfl, _, rfl, _, rfl, _, rfl, _, a.length, rfl, ⟨ha, rfl⟩, _, _, rfl, rfl, ?_⟩
    refine ⟨_, _, _, rfl, rfl, ?_⟩
    refine ⟨_, rfl, _, _, rfl, rfl, _, rfl, ?_⟩
    have k : Q (optV (if Txt.find3 t b ((i + a.length : Nat) : Int) < 0 then none else some ((Txt.find3 t b ((i + a.length : Nat) : Int)).toNat + b.length))) H := k
    exact ite_map (cls_k2 k) id (fun q => ⟨_, rfl, _, rfl, _, b.length, rfl, ⟨hb, rfl⟩, _, _, rfl, rfl, q⟩)
def sgnE : List Str → List Nat → Nat → Option Nat
  | [], _, _ => none
  | z :: r, D, i => if D.take z.length = z.cps.toList then some (i + z.length) else sgnE r D i
theorem sgn_app {B : List Str} {D : List Nat} {i n : Nat} : ∀ (A : List Str), (∀ z ∈ A, z.length = n) →
    sgnE (A ++ B) D i = if D.take n ∈ A.map (·.cps.toList) then some (i + n) else sgnE B D i
  | [], _ => by
    rw [if_neg (by simp)]
    rfl
  | z :: A, h => by
    have hz : z.length = n := h z (List.mem_cons_self ..)
    show (if D.take z.length = z.cps.toList then some (i + z.length) else sgnE (A ++ B) D i) = _
    rw [hz, List.map_cons]
    by_cases q : D.take n = z.cps.toList
    · rw [if_pos q, if_pos (by rw [q]; exact List.mem_cons_self ..)]
    · rw [if_neg q, sgn_app A fun y hy => h y (List.mem_cons_of_mem _ hy)]
      by_cases q2 : D.take n ∈ A.map (·.cps.toList)
      · rw [if_pos q2, if_pos (List.mem_cons_of_mem _ q2)]
      · rw [if_neg q2, if_neg (fun z => (List.mem_cons.mp z).elim q q2)]
theorem sgn_all {L : List Nat} {i c : Nat} (hc : L[i]? = some c) : sgnE tp_SIGNS (L.drop i) i = if (L.drop i).take 2 ∈ twoL then some (i + 2) else if c ∈ oneL then some (i + 1) else none := by
  have e : tp_SIGNS = tp_SIGNS.take 5 ++ (tp_SIGNS.drop 5 ++ []) := by rw [List.append_nil, List.take_append_drop]
  rw [e, sgn_app (n := 2) _ (by decide +kernel), sgn_app (n := 1) _ (by decide +kernel)]
  have e2 : (tp_SIGNS.take 5).map (·.cps.toList) = twoL := by decide +kernel
  have e1 : (tp_SIGNS.drop 5).map (·.cps.toList) = oneL.map fun c => [c] := by decide +kernel
  rw [e2, e1, drop_at hc]
  have m : (c :: L.drop (i + 1)).take 1 ∈ oneL.map (fun c => [c]) ↔ c ∈ oneL := by
    rw [List.mem_map]
    constructor
    · rintro ⟨a, h, e⟩
      have e : [a] = [c] := e
      cases e
      exact h
    · exact fun h => ⟨c, h, rfl⟩
  by_cases q : c ∈ oneL
  · rw [if_pos (m.mpr q), if_pos q]
  · rw [if_neg (fun z => q (m.mp z)), if_neg q]
    rfl
theorem sgn_step {l : List Str} {j : Nat} {z : Str} (h : l[j]? = some z) (D : List Nat) (i : Nat) :
    sgnE (l.drop j) D i = if D.take z.length = z.cps.toList then some (i + z.length) else sgnE (l.drop (j + 1)) D i := by
  obtain ⟨hl, rfl⟩ := List.getElem?_eq_some_iff.mp h
  rw [List.drop_eq_getElem_cons hl]
  rfl
theorem c_p_sign_end (T : Txt K mg w) : Cal P w K mg base 1 "_sign_end" (spAt fun t i => optV (sgnE tp_SIGNS (t.cps.toList.drop i) i)) [] := by
  obtain ⟨a_SIGNS, m_SIGNS, s_SIGNS⟩ := T.t_SIGNS
  refine calOf T.d_p_sign_end sc_p_sign_end (fun vs H Q E h => ?_) (fun f cdv A outer s H vs Q E hr h => ?_)
  · obtain ⟨t, i, rfl, _⟩ := h
    rfl
  · obtain ⟨t, i, rfl, hz, hi, k⟩ := h
    refine ⟨_,
      (pss_cons (ps_for PassesOwn.never rfl (pi_tup (pe_gc (v := V.ref a_SIGNS) rfl ⟨_, m_SIGNS, rfl⟩)) (pg_name (i := 2) sc_p_sign_end.nd rfl (Or.inl rfl))
        (pss_one (ps_if (pt_val (pe_bm PySem.F.plainAttrs_str PySem.F.slot_str_startswith PySem.F.type_str_startswith mt_startswith3 (pv 0) (pa_cons (pv 2) (pa_cons (pv 1) pa_nil))))
        (pss_one (ps_ret (pe_op op_add (pv 1) (pe_callB call_len (by rfl) T.n_len PySem.boot_len (pa_cons (pv 2) pa_nil)))))
        pss_nil)))
        (pss_one (ps_ret pe_non)))
      , ?_⟩
    have k : Q (optV (sgnE tp_SIGNS (t.cps.toList.drop i) i)) H := k
    generalize hw : sgnE tp_SIGNS (t.cps.toList.drop i) i = want at k
    refine ⟨a_SIGNS, rfl, ⟨_, s_SIGNS H⟩, for_tup (fun j σ' H' => ∃ v, σ' = [some (.str t), some (.int i), v] ∧ H' = H ∧ sgnE (tp_SIGNS.drop j) (t.cps.toList.drop i) i = want) ⟨none, rfl, rfl, hw⟩ (fun j σ' H' _ ⟨_, _, e, _⟩ => by rw [e]; exact s_SIGNS H) ?_ ?_⟩
    · rintro j y σ' H' hj ⟨v, rfl, rfl, hw⟩
      obtain ⟨z, hzj, rfl⟩ : ∃ z, tp_SIGNS[j]? = some z ∧ y = V.str z := by
        rw [List.getElem?_map] at hj
        cases e : tp_SIGNS[j]? with
        | none =>
          rw [e] at hj
          cases hj
        | some z =>
          rw [e] at hj
          cases hj
          exact ⟨z, rfl, rfl⟩
      have zl : 0 < z.length ∧ z.length ≤ 2 := by
        have all : ∀ z ∈ tp_SIGNS, 0 < z.length ∧ z.length ≤ 2 := by decide +kernel
        exact all z (List.mem_of_getElem? hzj)
      rw [sgn_step hzj] at hw
      refine ⟨_, rfl, rfl, _, rfl, _, rfl, _, _, _, rfl, rfl, _, rfl, ?_⟩
      rw [sw_at zl.1]
      refine ite2 (fun h1 => ?_) (fun h1 => ?_)
      · rw [if_pos (of_decide_eq_true h1)] at hw
        subst hw
        exact ⟨_, rfl, _, rfl, _, z.length, rfl, ⟨Nat.le_trans zl.2 (by decide), rfl⟩, _, _, rfl, rfl, k⟩
      · rw [if_neg (fun z => h1 (decide_eq_true z))] at hw
        exact ⟨_, rfl, rfl, hw⟩
    · rintro σ' H' ⟨v, rfl, rfl, hw⟩
      have hw : none = want := hw
      subst hw
      exact k

theorem esc2_mem {c : Nat} (e : c = 92) (r : List Nat) : decide ((⟨((c :: r).take 2).toArray⟩ : Str) ∈ tp_ESCAPES) = r.head?.any escC := by
  subst e
  cases r with
  | nil => decide +kernel
  | cons d q =>
    show decide ((⟨[92, d].toArray⟩ : Str) ∈ tp_ESCAPES) = escC d
    rw [← esc_mem d]
    refine decide_eq_decide.mpr ?_
    unfold tp_ESCAPES
    simp only [List.mem_cons, List.not_mem_nil, or_false]
    have e1 : ∀ (a : Nat), ((⟨#[d]⟩ : Str) = (⟨#[a]⟩ : Str)) ↔ d = a := fun a => ⟨fun h => by injection h with h; injection h with h; injection h, fun h => by rw [h]⟩
    have e2 : ∀ (a : Nat), ((⟨[92, d].toArray⟩ : Str) = (⟨#[92, a]⟩ : Str)) ↔ d = a := fun a => ⟨fun h => by injection h with h; injection h with h; injection h with _ h; injection h, fun h => by rw [h]⟩
    exact or_congr ((e2 34).trans (e1 34).symm) (or_congr ((e2 92).trans (e1 92).symm) (or_congr ((e2 110).trans (e1 110).symm) ((e2 116).trans (e1 116).symm)))
theorem c_p_quote_end (T : Txt K mg w) : Cal P w K mg base 1 "_quote_end" (spAt fun t i => optV (quoE (t.cps.toList.drop (i + 1)) (i + 1))) [] := by
  obtain ⟨a_ESCAPES, m_ESCAPES, s_ESCAPES⟩ := T.t_ESCAPES
  refine calOf T.d_p_quote_end sc_p_quote_end (fun vs H Q E h => ?_) (fun f cdv A outer s H vs Q E hr h => ?_)
  · obtain ⟨t, i, rfl, _⟩ := h
    rfl
  · obtain ⟨t, i, rfl, hz, hi, k⟩ := h
    refine ⟨_,
      (pss_cons (ps_set (i := 2) sc_p_quote_end.nd rfl (Or.inl rfl) (pe_op op_add (pv 1) pe_int))
        (pss_cons (ps_while PassesOwn.never (PW.pt (pw_and (pt_cmpR op_lt (pv 2) (pe_callB call_len (by rfl) T.n_len PySem.boot_len (pa_cons (pv 0) pa_nil)) (nomark _)) (pw_and1 (pt_cmpR op_ne (pe_ix ix_str (pv 0) (pv 2) (fun _ _ => rfl)) pe_str (nomark _)))))
        (pss_cons (ps_if (pt_cmpR op_eq (pe_ix ix_str (pv 0) (pv 2) (fun _ _ => rfl)) pe_str (nomark _))
        (pss_one (ps_ret (pe_op op_add (pv 2) pe_int)))
        pss_nil)
        (pss_cons (ps_if (pt_cmpR op_eq (pe_ix ix_str (pv 0) (pv 2) (fun _ _ => rfl)) pe_str (nomark _))
        (pss_cons (ps_if (pt_cmpR op_notIn_seq (pe_slice sl_str (pv 0) (po_some (pv 2)) (po_some (pe_op op_add (pv 2) pe_int))) (pe_gc (v := V.ref a_ESCAPES) rfl ⟨_, m_ESCAPES, rfl⟩) (by rfl))
        (pss_one (ps_ret pe_non))
        pss_nil)
        (pss_one (ps_aug (i := 2) sc_p_quote_end.nd rfl (Or.inl rfl) pe_int ip_add)))
        pss_nil)
        (pss_one (ps_aug (i := 2) sc_p_quote_end.nd rfl (Or.inl rfl) pe_int ip_add)))))
        (pss_one (ps_ret pe_non))))
      , ?_⟩
    have k : Q (optV (quoE (t.cps.toList.drop (i + 1)) (i + 1))) H := k
    refine ⟨_, rfl, _, _, rfl, rfl, ?_⟩
    generalize hq : quoE (t.cps.toList.drop (i + 1)) (i + 1) = want at k
    refine ⟨fun m σ' H' => ∃ j : Nat, σ' = [some (.str t), some (.int i), some (.int j)] ∧ H' = H ∧ quoE (t.cps.toList.drop j) j = want ∧ m = t.length - j,
      ⟨_, i + 1, rfl, rfl, hq, rfl⟩, ?_⟩
    rintro m σ' H' ⟨j, rfl, rfl, hw, rfl⟩
    refine ⟨_, rfl, _, rfl, _, t.length, rfl, ⟨hz, rfl⟩, _, _, rfl, rfl, _, rfl, ?_⟩
    refine ite2 (fun h1 => ?_) (fun h1 => ?_)
    · have hlt : j < t.length := by
        have := of_decide_eq_true h1
        omega
      obtain ⟨c, hc⟩ := at_lt hlt
      rw [drop_at hc] at hw
      refine ⟨_, rfl, _, rfl, _, _, c, rfl, rfl, hz, atI_nat hc, rfl, _, rfl, ?_⟩
      refine ite2 (fun h2 => ?_) (fun h2 => ?_)
      · have h2' : (!decide (V.str ⟨#[c]⟩ = V.str "\n")) = true := h2
        rw [show decide (V.str ⟨#[c]⟩ = V.str "\n") = decide (c = 10) from eq_one 10 c] at h2'
        have n10 : c ≠ 10 := fun z => by rw [decide_eq_true z] at h2'; cases h2'
        refine ⟨fun σ' H2 => ∃ m', m' < t.length - j ∧ ∃ j : Nat, σ' = [some (.str t), some (.int i), some (.int j)] ∧ H2 = H' ∧ quoE (t.cps.toList.drop j) j = want ∧ m' = t.length - j, fun _ _ h => h, ?_⟩
        refine ⟨_, rfl, _, rfl, _, _, c, rfl, rfl, hz, atI_nat hc, rfl, _, rfl, ?_⟩
        rw [show decide (V.str ⟨#[c]⟩ = V.str "\"") = decide (c = 34) from eq_one 34 c]
        refine ite2 (fun h3 => ?_) (fun h3 => ?_)
        · have e34 := of_decide_eq_true h3
          subst e34
          rw [quo_34] at hw
          subst hw
          exact ⟨_, rfl, _, _, rfl, rfl, k⟩
        · have n34 : c ≠ 34 := fun z => h3 (decide_eq_true z)
          refine ⟨_, rfl, _, rfl, _, _, c, rfl, rfl, hz, atI_nat hc, rfl, _, rfl, ?_⟩
          rw [show decide (V.str ⟨#[c]⟩ = V.str "\\") = decide (c = 92) from eq_one 92 c]
          refine ite2 (fun h4 => ?_) (fun h4 => ?_)
          · have e92 := of_decide_eq_true h4
            subst e92
            refine ⟨_, rfl, _, rfl, _, rfl, _, rfl, _, _, rfl, rfl, _, rfl, _, rfl, hz, a_ESCAPES, _, rfl, .inr (s_ESCAPES _), rfl, rfl, _, rfl, ?_⟩
            have ei : inV (.str (cutS t (some (j : Int)) (some ((j + 2 : Nat) : Int)))) (tp_ESCAPES.map V.str) = (t.cps.toList[j + 1]?.any escC) := by
              rw [inV_strs, cut2 t (by omega), Nat.add_sub_cancel_left, drop_at hc, esc2_mem rfl, List.head?_drop]
            refine ite2 (fun h5 => ?_) (fun h5 => ?_)
            · have h5' : (!inV (.str (cutS t (some (j : Int)) (some ((j + 2 : Nat) : Int)))) (tp_ESCAPES.map V.str)) = true := h5
              rw [ei] at h5'
              have hw : none = want := by
                rw [← hw]
                cases e : t.cps.toList[j + 1]? with
                | none => rw [List.drop_eq_nil_iff.mpr (List.getElem?_eq_none_iff.mp e), quo_92]
                | some d =>
                  rw [e] at h5'
                  have : escC d = false := by
                    cases q : escC d with
                    | false => rfl
                    | true =>
                      rw [show (some d : Option Nat).any escC = escC d from rfl, q] at h5'
                      cases h5'
                  rw [drop_at e, quo_esc, this] <;> rfl
              subst hw
              exact k
            · have h5' : ¬ (!inV (.str (cutS t (some (j : Int)) (some ((j + 2 : Nat) : Int)))) (tp_ESCAPES.map V.str)) = true := h5
              rw [ei] at h5'
              cases e : t.cps.toList[j + 1]? with
              | none =>
                rw [e] at h5'
                exact absurd rfl h5'
              | some d =>
                rw [e] at h5'
                have hd : escC d = true := by
                  cases q : escC d with
                  | true => rfl
                  | false =>
                    rw [show (some d : Option Nat).any escC = escC d from rfl, q] at h5'
                    exact absurd rfl h5'
                have l2 : j + 1 < t.length := by
                  rw [str_len]
                  exact len_at e
                rw [drop_at e, quo_esc, if_pos hd] at hw
                refine ⟨_, rfl, _, _, rfl, rfl, ?_⟩
                refine ⟨_, rfl, _, _, rfl, rfl, ?_⟩
                exact ⟨_, (by omega : t.length - (j + 2) < t.length - j), j + 2, rfl, rfl, hw, rfl⟩
          · have n92 : c ≠ 92 := fun q => h4 (decide_eq_true q)
            rw [quo_on _ _ n34 n10 n92] at hw
            refine ⟨_, rfl, _, _, rfl, rfl, ?_⟩
            exact ⟨_, (by omega : t.length - (j + 1) < t.length - j), j + 1, rfl, rfl, hw, rfl⟩
      · have h2' : ¬ (!decide (V.str ⟨#[c]⟩ = V.str "\n")) = true := h2
        rw [show decide (V.str ⟨#[c]⟩ = V.str "\n") = decide (c = 10) from eq_one 10 c] at h2'
        have e10 : c = 10 := by
          by_cases q : c = 10
          · exact q
          · exact absurd (by rw [decide_eq_false q]; rfl) h2'
        subst e10
        rw [quo_10] at hw
        subst hw
        exact k
    · have hge : t.cps.toList.length ≤ j := by
        have : ¬ ((j : Int) < (t.length : Int)) := fun q => h1 (decide_eq_true q)
        rw [← str_len]
        omega
      refine iteF ?_
      rw [List.drop_eq_nil_iff.mpr hge] at hw
      have hw : none = want := by rw [← hw]; unfold quoE; rfl
      subst hw
      exact k

def kdA (t : Str) (i c : Nat) : Str :=
  if (t.cps.toList.drop i).take 2 = [60, 42] then "block" else if (t.cps.toList.drop i).take 3 = [39, 39, 39] then "raw" else if c = 34 then "quote" else if c = 35 then "line"
  else if digC c then "number" else if letC c then (if (⟨((t.cps.toList.drop i).take (runE wrdC t.cps.toList i - i)).toArray⟩ : Str) ∈ tp_KEYWORDS then "keyword" else "name") else "sign"
theorem dig_not_let {c : Nat} (h : digC c = true) : letC c = false := by
  unfold digC at h
  rw [Bool.and_eq_true, decide_eq_true_eq, decide_eq_true_eq] at h
  unfold letC
  rw [decide_eq_false (by omega : ¬ 97 ≤ c), decide_eq_false (by omega : ¬ 65 ≤ c), decide_eq_false (by omega : ¬ c = 95)]
  rfl
theorem wrd_sgn {t : Str} {i c : Nat} (hc : t.cps.toList[i]? = some c) (h1 : ¬ (t.cps.toList.drop i).take 2 = [60, 42]) (h2 : ¬ (t.cps.toList.drop i).take 3 = [39, 39, 39]) (h3 : ¬ c = 34) (h4 : ¬ c = 35)
    (h5 : ¬ digC c = true) (h6 : ¬ letC c = true) : wrdE t i = sgnE tp_SIGNS (t.cps.toList.drop i) i := by
  rw [wrd_at hc, sgn_all hc, if_neg h6, if_neg h5, if_neg h3]
  by_cases q : c = 39
  · subst q
    rw [if_pos rfl, if_neg h2, if_neg, if_neg (by decide)]
    rw [drop_at hc]
    intro hm
    have all : ∀ l ∈ twoL, l.head? ≠ some 39 := by decide
    exact all _ hm rfl
  · rw [if_neg q, if_neg h4, if_neg h1]
theorem take_hd {L : List Nat} {i c a n : Nat} {l : List Nat} (hc : L[i]? = some c) (h : (L.drop i).take (n + 1) = a :: l) : c = a := by
  rw [drop_at hc, List.take_succ_cons] at h
  injection h
def spWA : Sp := fun vs H Q _ => ∃ (t : Str) (i : Nat), vs = [.str t, .int i] ∧ t.length ≤ sizeLine ∧ i < t.length ∧
  ∀ c p, t.cps.toList[i]? = some c → H p = none → Q (.ref p) (upd H p (.tup [.str (kdA t i c), optV (wrdE t i)]))
theorem c_p_word_at (T : Txt K mg w) (c_p_line_end : Cal P w K mg base 1 "line_end" (spAt fun t i => .int (runE notNl t.cps.toList i)) []) (c_p_run_end : Cal P w K mg base 1 "_run_end" spRunS [])
    (c_p_number_end : Cal P w K mg base 2 "_number_end" (spAt fun t i => .int (numE t.cps.toList i)) []) (c_p_quote_end : Cal P w K mg base 1 "_quote_end" (spAt fun t i => optV (quoE (t.cps.toList.drop (i + 1)) (i + 1))) [])
    (c_p_closed_end : Cal P w K mg base 1 "_closed_end" spCls []) (c_p_sign_end : Cal P w K mg base 1 "_sign_end" (spAt fun t i => optV (sgnE tp_SIGNS (t.cps.toList.drop i) i)) []) :
    Cal P w K mg base 3 "word_at" spWA [] := by
  obtain ⟨a_KEYWORDS, m_KEYWORDS, s_KEYWORDS⟩ := T.t_KEYWORDS
  refine calOf T.d_p_word_at sc_p_word_at (fun vs H Q E h => ?_) (fun f cdv A outer s H vs Q E hr h => ?_)
  · obtain ⟨t, i, rfl, _⟩ := h
    rfl
  · obtain ⟨t, i, rfl, hz, hi, k⟩ := h
    refine ⟨_,
      (pss_cons (ps_if (pt_val (pe_bm PySem.F.plainAttrs_str PySem.F.slot_str_startswith PySem.F.type_str_startswith mt_startswith3 (pv 0) (pa_cons pe_str (pa_cons (pv 1) pa_nil))))
        (pss_one (ps_ret (pe_tup (pa_cons pe_str (pa_cons (pe_c c_p_closed_end hr (by first | decide | omega) rfl (pa_cons (pv 0) (pa_cons (pv 1) (pa_cons pe_str (pa_cons pe_str pa_nil))))) pa_nil)))))
        pss_nil)
        (pss_cons (ps_if (pt_val (pe_bm PySem.F.plainAttrs_str PySem.F.slot_str_startswith PySem.F.type_str_startswith mt_startswith3 (pv 0) (pa_cons pe_str (pa_cons (pv 1) pa_nil))))
        (pss_one (ps_ret (pe_tup (pa_cons pe_str (pa_cons (pe_c c_p_closed_end hr (by first | decide | omega) rfl (pa_cons (pv 0) (pa_cons (pv 1) (pa_cons pe_str (pa_cons pe_str pa_nil))))) pa_nil)))))
        pss_nil)
        (pss_cons (ps_if (pt_cmpR op_eq (pe_ix ix_str (pv 0) (pv 1) (fun _ _ => rfl)) pe_str (nomark _))
        (pss_one (ps_ret (pe_tup (pa_cons pe_str (pa_cons (pe_c c_p_quote_end hr (by first | decide | omega) rfl (pa_cons (pv 0) (pa_cons (pv 1) pa_nil))) pa_nil)))))
        pss_nil)
        (pss_cons (ps_if (pt_cmpR op_eq (pe_ix ix_str (pv 0) (pv 1) (fun _ _ => rfl)) pe_str (nomark _))
        (pss_one (ps_ret (pe_tup (pa_cons pe_str (pa_cons (pe_c c_p_line_end hr (by first | decide | omega) rfl (pa_cons (pv 0) (pa_cons (pv 1) pa_nil))) pa_nil)))))
        pss_nil)
        (pss_cons (ps_if (pt_cmpR op_in_sign (pe_ix ix_str (pv 0) (pv 1) (fun _ _ => rfl)) (pe_gc rfl T.g_DIGITS) (by rfl))
        (pss_one (ps_ret (pe_tup (pa_cons pe_str (pa_cons (pe_c c_p_number_end hr (by first | decide | omega) rfl (pa_cons (pv 0) (pa_cons (pv 1) pa_nil))) pa_nil)))))
        pss_nil)
        (pss_cons (ps_if (pt_cmpR op_in_sign (pe_ix ix_str (pv 0) (pv 1) (fun _ _ => rfl)) (pe_gc rfl T.g_LETTERS) (by rfl))
        (pss_cons (ps_set (i := 2) sc_p_word_at.nd rfl (Or.inl rfl) (pe_c c_p_run_end hr (by first | decide | omega) rfl (pa_cons (pv 0) (pa_cons (pv 1) (pa_cons (pe_op op_add_str (pe_gc rfl T.g_LETTERS) (pe_gc rfl T.g_DIGITS)) pa_nil)))))
        (pss_one (ps_ret (pe_tup (pa_cons (pe_ifExp (pt_cmpR op_in_seq (pe_slice sl_str (pv 0) (po_some (pv 1)) (po_some (pv 2))) (pe_gc (v := V.ref a_KEYWORDS) rfl ⟨_, m_KEYWORDS, rfl⟩) (by rfl)) pe_str pe_str) (pa_cons (pv 2) pa_nil))))))
        pss_nil)
        (pss_one (ps_ret (pe_tup (pa_cons pe_str (pa_cons (pe_c c_p_sign_end hr (by first | decide | omega) rfl (pa_cons (pv 0) (pa_cons (pv 1) pa_nil))) pa_nil)))))))))))
      , ?_⟩
    obtain ⟨c, hc⟩ := at_lt hi
    have k : ∀ p, H p = none → Q (.ref p) (upd H p (.tup [.str (kdA t i c), optV (wrdE t i)])) := fun p => k c p hc
    unfold kdA at k
    have wa := wrd_at hc
    refine ⟨_, rfl, rfl, _, rfl, _, _, _, rfl, rfl, _, rfl, ?_⟩
    rw [sw_at (by decide)]
    refine ite2 (fun h1 => ?_) (fun h1 => ?_)
    · have q1 : (t.cps.toList.drop i).take 2 = [60, 42] := of_decide_eq_true h1
      have e := take_hd hc q1
      subst e
      rw [if_neg (by decide), if_neg (by decide), if_neg (by decide), if_neg (by decide), if_neg (by decide), if_pos q1] at wa
      rw [wa, if_pos q1] at k
      exact ⟨_, rfl, _, rfl, t, i, _, _, rfl, (by decide), (by decide), (by show 2 ≤ sizeLine; decide), fun p hp => k p hp⟩
    · have q1 : ¬ (t.cps.toList.drop i).take 2 = [60, 42] := fun z => h1 (decide_eq_true z)
      rw [if_neg q1] at k
      refine ⟨_, rfl, rfl, _, rfl, _, _, _, rfl, rfl, _, rfl, ?_⟩
      rw [sw_at (by decide)]
      refine ite2 (fun h2 => ?_) (fun h2 => ?_)
      · have q2 : (t.cps.toList.drop i).take 3 = [39, 39, 39] := of_decide_eq_true h2
        have e := take_hd hc q2
        subst e
        rw [if_neg (by decide), if_neg (by decide), if_neg (by decide), if_pos rfl, if_pos q2] at wa
        rw [wa, if_pos q2] at k
        exact ⟨_, rfl, _, rfl, t, i, _, _, rfl, (by decide), (by decide), (by show 2 ≤ sizeLine; decide), fun p hp => k p hp⟩
      · have q2 : ¬ (t.cps.toList.drop i).take 3 = [39, 39, 39] := fun z => h2 (decide_eq_true z)
        rw [if_neg q2] at k
        refine ⟨_, rfl, _, rfl, _, _, c, rfl, rfl, hz, atI_nat hc, rfl, _, rfl, ?_⟩
        rw [show decide (V.str ⟨#[c]⟩ = V.str "\"") = decide (c = 34) from eq_one 34 c]
        refine ite2 (fun h3 => ?_) (fun h3 => ?_)
        · have e := of_decide_eq_true h3
          subst e
          rw [if_neg (by decide), if_neg (by decide), if_pos rfl] at wa
          rw [wa, if_pos rfl] at k
          exact ⟨_, rfl, _, rfl, t, i, rfl, hz, hi, (by show 2 ≤ sizeLine; decide), fun p hp => k p hp⟩
        · have q3 : ¬ c = 34 := fun z => h3 (decide_eq_true z)
          rw [if_neg q3] at k
          refine ⟨_, rfl, _, rfl, _, _, c, rfl, rfl, hz, atI_nat hc, rfl, _, rfl, ?_⟩
          rw [show decide (V.str ⟨#[c]⟩ = V.str "#") = decide (c = 35) from eq_one 35 c]
          refine ite2 (fun h4 => ?_) (fun h4 => ?_)
          · have e := of_decide_eq_true h4
            subst e
            rw [if_neg (by decide), if_neg (by decide), if_neg (by decide), if_neg (by decide), if_pos rfl] at wa
            rw [wa, if_pos rfl] at k
            exact ⟨_, rfl, _, rfl, t, i, rfl, hz, hi, (by show 2 ≤ sizeLine; decide), fun p hp => k p hp⟩
          · have q4 : ¬ c = 35 := fun z => h4 (decide_eq_true z)
            rw [if_neg q4] at k
            refine ⟨_, rfl, _, rfl, _, _, c, rfl, rfl, hz, atI_nat hc, c, _, rfl, rfl, _, rfl, ?_⟩
            rw [show decide (c ∈ ("0123456789" : Str).cps.toList) = digC c from congrFun dig_in c]
            refine ite2 (fun h5 => ?_) (fun h5 => ?_)
            · rw [dig_not_let h5, if_neg (by decide), if_pos h5] at wa
              rw [wa, if_pos h5] at k
              exact ⟨_, rfl, _, rfl, t, i, rfl, hz, hi, (by show 2 ≤ sizeLine; decide), fun p hp => k p hp⟩
            · rw [if_neg h5] at k
              refine ⟨_, rfl, _, rfl, _, _, c, rfl, rfl, hz, atI_nat hc, c, _, rfl, rfl, _, rfl, ?_⟩
              rw [show decide (c ∈ ("ABCDEFGHIJKLMNOPQRSTUVWXYZ_abcdefghijklmnopqrstuvwxyz" : Str).cps.toList) = letC c from congrFun let_in c]
              refine ite2 (fun h6 => ?_) (fun h6 => ?_)
              · rw [if_pos h6] at wa
                rw [wa, if_pos h6] at k
                refine ⟨_, rfl, _, rfl, _, _, rfl, rfl, (by decide), t, i, _, rfl, hz, ?_⟩
                rw [wrd_inC]
                have rg := run_ge wrdC t.cps.toList i
                have rl : runE wrdC t.cps.toList i ≤ t.length := by
                  rw [str_len]
                  exact run_le (Nat.le_of_lt (len_at hc))
                generalize runE wrdC t.cps.toList i = e at k rg rl
                refine ⟨_, rfl, _, rfl, _, rfl, _, rfl, _, rfl, _, rfl, hz, a_KEYWORDS, _, rfl, .inr (s_KEYWORDS _), rfl, rfl, _, rfl, ?_⟩
                have ei : inV (.str (cutS t (some (i : Int)) (some (e : Int)))) (tp_KEYWORDS.map V.str) = decide ((⟨((t.cps.toList.drop i).take (e - i)).toArray⟩ : Str) ∈ tp_KEYWORDS) := by
                  rw [inV_strs, cut2 t rg]
                refine ite2 (fun h7 => ?_) (fun h7 => ?_)
                · rw [if_pos (of_decide_eq_true (ei.symm.trans h7))] at k
                  exact ⟨_, rfl, (by show 2 ≤ sizeLine; decide), fun p hp => k p hp⟩
                · rw [if_neg (fun z => h7 (ei.trans (decide_eq_true z)))] at k
                  exact ⟨_, rfl, (by show 2 ≤ sizeLine; decide), fun p hp => k p hp⟩
              · rw [wrd_sgn hc q1 q2 q3 q4 h5 h6, if_neg h6] at k
                exact ⟨_, rfl, _, rfl, t, i, rfl, hz, hi, (by show 2 ≤ sizeLine; decide), fun p hp => k p hp⟩

/-- a short text -/
def okS : V → Bool
  | .str z => decide (z.length ≤ 100) && z.cps.toList.all (· < 0x110000)
  | _ => false
theorem okS_is {v : V} (h : okS v = true) : ∃ z : Str, v = .str z ∧ z.length ≤ 100 ∧ Nice z := by
  cases v with
  | str z =>
    have h : (decide (z.length ≤ 100) && z.cps.toList.all (· < 0x110000)) = true := h
    rw [Bool.and_eq_true] at h
    exact ⟨z, rfl, of_decide_eq_true h.1, nice_of h.2⟩
  | _ => cases h
theorem okS_in {l : List V} {v : V} (h : l.all okS = true) (hv : v ∈ l) : ∃ z : Str, v = .str z ∧ z.length ≤ 100 ∧ Nice z := okS_is (List.all_eq_true.mp h v hv)
theorem NameOk.nice {z : Str} (h : NameOk z) : Nice z := by
  intro c hc
  have hc : c ∈ z.cps.toList := hc
  have f := h.form
  have lt : ∀ c, isLetter c = true → c < 0x110000 := fun c h => by
    unfold isLetter at h
    simp only [Bool.or_eq_true, Bool.and_eq_true, decide_eq_true_eq] at h
    omega
  have dt : ∀ c, isDigit c = true → c < 0x110000 := fun c h => by
    unfold isDigit at h
    simp only [Bool.and_eq_true, decide_eq_true_eq] at h
    omega
  unfold nameL at f
  split at f
  · cases f
  · rename_i a r e
    rw [e] at hc
    rw [Bool.and_eq_true, List.all_eq_true] at f
    rcases List.mem_cons.mp hc with h | h
    · rw [h]
      exact lt _ f.1
    · have := f.2 c h
      rw [Bool.or_eq_true] at this
      exact this.elim (lt c) (dt c)
theorem okS_of {z : Str} (h : z.length ≤ 100) (n : Nice z) : okS (.str z) = true := by
  show (decide (z.length ≤ 100) && z.cps.toList.all (· < 0x110000)) = true
  rw [Bool.and_eq_true]
  exact ⟨decide_eq_true h, List.all_eq_true.mpr fun c hc => decide_eq_true (n c hc)⟩
theorem pair_at {H : Hp} {v : V} {k w : Str} (t : Tr H v (.tuple [.str k, .str w])) : ∃ q, v = .ref q ∧ H q = some (.tup [.str k, .str w]) := by
  cases t with
  | tup h r =>
    cases r with
    | cons a r =>
      cases r with
      | cons b r =>
        cases r
        cases a
        cases b
        exact ⟨_, rfl, h⟩
theorem leaf_okS {k w : Str} (h : Leaf k w) : okS (.str w) = true := by
  have of : ∀ l : List Str, (l.all fun z => okS (.str z)) = true → w ∈ l → okS (.str w) = true := fun l h hw => List.all_eq_true.mp h w hw
  cases h with
  | name h => exact okS_of (Nat.le_trans h.size (by decide)) h.nice
  | number h => exact of numbersL (by decide +kernel) h
  | quote h => exact of quotesL (by decide +kernel) h
  | word h => exact of constsL (by decide +kernel) h
  | raw h => exact of rawsL (by decide +kernel) h
theorem call_reprB {X : Cx} : CallR X (.builtin "repr") (fun xs H Q => ∃ b, xs = [.bl b] ∧ Q (.str (if b then "True" else "False")) H) := by
  intro pins s σ H xs us Q I r h
  obtain ⟨b, rfl, q⟩ := h
  cases r with
  | cons rv rn =>
    cases rn
    cases rv
    exact PySem.P.repr_of_bool ⟨.str _, H, I.tok _, ⟨_, rfl⟩, q⟩
def spAlikeB : Sp := fun vs H Q _ => ∃ b : Bool, vs = [.bl b, .bl b] ∧ Q (.bl true) H
theorem c_l_alike (T : Txt K mg w) : Cal P w K mg base 1 "_law_alike" spAlikeB [] := by
  refine calOf T.d_l_alike sc_l_alike (fun vs H Q E h => ?_) (fun f cdv A outer s H vs Q E hr h => ?_)
  · obtain ⟨b, rfl, _⟩ := h
    rfl
  · obtain ⟨b, rfl, k⟩ := h
    refine ⟨_,
      (pss_one (ps_ret (pe_and (pe_cmpR op_eq (pv 0) (pv 1) (nomark _)) (pe_one (pe_cmpR op_eq (pe_callB call_reprB (by rfl) T.n_repr (by decide +kernel) (pa_cons (pv 0) pa_nil)) (pe_callB call_reprB (by rfl) T.n_repr (by decide +kernel) (pa_cons (pv 1) pa_nil)) (nomark _))))))
      , ?_⟩
    refine ⟨_, rfl, _, rfl, rfl, _, rfl, ?_⟩
    rw [decide_eq_true rfl]
    refine iteT ?_
    refine ⟨_, rfl, b, rfl, _, rfl, b, rfl, rfl, ?_⟩
    rw [decide_eq_true rfl]
    exact k
def sg4 : List Str := ["(", ")", "[", "]", "{", "}", ",", ";", ":", ".", "=", "==", "!=", "<", "<=", ">", ">=", "+", "-", "*", "/", "^", "->"]
theorem sg4_split : Txt.split "( ) [ ] { } , ; : . = == != < <= > >= + - * / ^ ->" " " = sg4 := by decide +kernel
theorem sg4_ok : (sg4.map V.str).all okS = true := by decide +kernel
theorem kws_ok : (kws.map V.str).all okS = true := by decide +kernel
/-- a word is drawn -/
def spWd : Sp := fun vs H Q _ => ∃ (g : Bg) (c e : Int), vs = [.ref g.b] ∧ Bag H g c e ∧ ∀ (z : Str) (H' : Hp), z.length ≤ 100 → Nice z → Drawn g H H' c e → Q (.str z) H'
theorem c_l_bare_word (T : Txt K mg w) (c_l_one : Cal P w K mg base 2 "_law_one" (spOne K) []) (c_l_keywords : Cal P w K mg base 1 "_law_keywords" spKws []) (c_l_name : Cal P w K mg base 3 "_law_name" spName []) (c_l_atom : Cal P w K mg base 4 "_law_atom" spAtom []) :
    Cal P w K mg base 5 "_law_bare_word" spWd [] := by
  refine calOf T.d_l_bare_word sc_l_bare_word (fun vs H Q E h => ?_) (fun f cdv A outer s H vs Q E hr h => ?_)
  · obtain ⟨g, c, e, rfl, _⟩ := h
    rfl
  · obtain ⟨g, c, e, rfl, B, k⟩ := h
    refine ⟨_,
      (pss_cons (ps_set (i := 1) sc_l_bare_word.nd rfl (Or.inl rfl) (pe_split pe_str pe_str))
        (pss_cons (ps_set (i := 2) sc_l_bare_word.nd rfl (Or.inl rfl) (pe_lst (pa_cons (pe_c c_l_one hr (by first | decide | omega) rfl (pa_cons (pv 0) (pa_cons (pv 1) pa_nil))) (pa_cons (pe_c c_l_one hr (by first | decide | omega) rfl (pa_cons (pv 0) (pa_cons (pv 1) pa_nil))) (pa_cons (pe_ix ix_tup (pe_c c_l_atom hr (by first | decide | omega) rfl (pa_cons (pv 0) pa_nil)) pe_int (fun _ _ => rfl)) (pa_cons (pe_c c_l_one hr (by first | decide | omega) rfl (pa_cons (pv 0) (pa_cons (pe_c0 c_l_keywords hr (by first | decide | omega) rfl) pa_nil))) pa_nil))))))
        (pss_cons (ps_expr (pe_bm PySem.F.plainAttrs_list PySem.F.slot_list_append PySem.F.type_list_append mt_append (pv 2) (pa_cons (pe_c c_l_name hr (by first | decide | omega) rfl (pa_cons (pv 0) pa_nil)) pa_nil)))
        (pss_one (ps_ret (pe_c c_l_one hr (by first | decide | omega) rfl (pa_cons (pv 0) (pa_cons (pv 2) pa_nil))))))))
      , ?_⟩
    refine ⟨⟨_, rfl⟩, _, _, rfl, rfl, rfl, by decide, fun p hp => ?_⟩
    rw [sg4_split]
    have np := B.ne_new hp
    have D0 := (Drawn.of B).new (o := .lst (sg4.map V.str)) hp
    have h0 : upd H p (.lst (sg4.map V.str)) p = some (.lst (sg4.map V.str)) := upd_same
    generalize upd H p (.lst (sg4.map V.str)) = H0 at D0 h0 ⊢
    have pick : ∀ (Hx : Hp) (Q' : VK), Bag Hx g c e → Hx p = some (.lst (sg4.map V.str)) → (∀ (z : Str) (H' : Hp), okS (.str z) = true → Drawn g Hx H' c e → Q' (.str z) H') → spOne K [.ref g.b, .ref p] Hx Q' E0 := fun Hx Q' Bx hx kx =>
      ⟨g, _, c, e, rfl, Bx, .inl ⟨p, _, rfl, .inl (SqL.of hx), np, by decide, by decide, fun v H' hv D => by
        have o := List.all_eq_true.mp sg4_ok v hv
        obtain ⟨z, rfl, _⟩ := okS_is o
        exact kx z H' o D⟩⟩
    refine ⟨_, rfl, _, rfl, pick _ _ D0.bag h0 fun z1 H1 o1 D1 => ?_⟩
    refine ⟨_, rfl, _, rfl, pick _ _ D1.bag (D1.keep np h0) fun z2 H2 o2 D2 => ?_⟩
    have D2 := (D0.trans D1).trans D2
    refine ⟨_, rfl, g, c, e, rfl, D2.bag, fun va kd wd H3 lf tr D3 => ?_⟩
    obtain ⟨q, rfl, hq3⟩ := pair_at tr
    have D3 := D2.trans D3
    refine ⟨q, _, _, _, rfl, rfl, SqT.of hq3, atI_nat (j := 1) rfl, ?_⟩
    refine ⟨_, rfl, rfl, fun p4 hp4 => pick_of D3.bag hp4 (by decide) (by decide) fun v4 H4 hv4 D4 => ?_⟩
    have o4 := List.all_eq_true.mp kws_ok v4 hv4
    obtain ⟨z4, rfl, _⟩ := okS_is o4
    have D4 := D3.trans D4
    refine ⟨by show 4 ≤ sizeLine; decide, fun p5 hp5 => ?_⟩
    have n5 := D4.bag.ne_new hp5
    have D5 := D4.new (o := .lst [.str z1, .str z2, .str wd, .str z4]) hp5
    have h5 : upd H4 p5 (.lst [.str z1, .str z2, .str wd, .str z4]) p5 = some (.lst [.str z1, .str z2, .str wd, .str z4]) := upd_same
    have nL : p5 ≠ g.L := D4.bag.ne_newL hp5
    refine ⟨_, rfl, .inl ⟨rfl, _, SqL.of upd_same⟩, _, rfl, g, c, e, rfl, D4.bag.new hp5, fun zn H6 hn D6 => ?_⟩
    refine ⟨p5, _, .str zn, rfl, rfl, D6.keep n5 h5, by show 4 < sizeLine; decide, ?_⟩
    have hH : H p5 = none := by
      cases q : H p5 with
      | none => rfl
      | some o =>
        rw [D4.keep n5 q] at hp5
        cases hp5
    have D7 : Drawn g H (upd H6 p5 (.lst ([.str z1, .str z2, .str wd, .str z4] ++ [.str zn]))) c e := (D5.trans D6).put B hH
    refine ⟨_, rfl, _, rfl, g, _, c, e, rfl, D7.bag, .inl ⟨p5, _, rfl, .inl (SqL.of upd_same), n5, by show 0 < 5; decide, by show 5 < 1000; decide, fun v H8 hv D8 => ?_⟩⟩
    have ok : ([.str z1, .str z2, .str wd, .str z4] ++ [.str zn] : List V).all okS = true := by
      have e1 := okS_of (Nat.le_trans hn.size (by decide)) hn.nice
      show (okS (.str z1) && (okS (.str z2) && (okS (.str wd) && (okS (.str z4) && (okS (.str zn) && true))))) = true
      rw [o1, o2, leaf_okS lf, o4, e1]
      rfl
    obtain ⟨z, rfl, y1, y2⟩ := okS_in ok hv
    exact k z H8 y1 y2 (D7.trans D8)

/-- the words of a text from a place on, in pairs of begin and end; none where a fault stands -/
def cutF : Nat → Str → Nat → Option (List (Nat × Nat))
  | 0, _, _ => some []
  | n + 1, t, i =>
    match t.cps.toList[i]? with
    | none => some []
    | some c => if c = 32 ∨ c = 10 then cutF n t (i + 1) else
      match wrdE t i with
      | none => none
      | some e => (cutF n t e).map ((i, e) :: ·)
theorem cutF_fuel {t : Str} : ∀ (n m i : Nat), t.length ≤ i + n → t.length ≤ i + m → cutF n t i = cutF m t i
  | 0, 0, _, _, _ => rfl
  | 0, m + 1, i, h, _ => by
    have e : t.cps.toList[i]? = none := List.getElem?_eq_none_iff.mpr (by rw [← str_len]; omega)
    unfold cutF
    rw [e]
  | n + 1, 0, i, _, h => by
    have e : t.cps.toList[i]? = none := List.getElem?_eq_none_iff.mpr (by rw [← str_len]; omega)
    unfold cutF
    rw [e]
  | n + 1, m + 1, i, h1, h2 => by
    unfold cutF
    cases e : t.cps.toList[i]? with
    | none => rfl
    | some c =>
      show (if c = 32 ∨ c = 10 then cutF n t (i + 1) else _) = (if c = 32 ∨ c = 10 then cutF m t (i + 1) else _)
      rw [cutF_fuel n m (i + 1) (by omega) (by omega)]
      cases ew : wrdE t i with
      | none => rfl
      | some e2 =>
        have := (wrd_in ew).1
        show (if c = 32 ∨ c = 10 then _ else (cutF n t e2).map ((i, e2) :: ·)) = (if c = 32 ∨ c = 10 then _ else (cutF m t e2).map ((i, e2) :: ·))
        rw [cutF_fuel n m e2 (by omega) (by omega)]
def cutA (t : Str) (i : Nat) : Option (List (Nat × Nat)) := cutF t.length t i
theorem cutA_end {t : Str} {i : Nat} (h : t.length ≤ i) : cutA t i = some [] := (cutF_fuel t.length 0 i (by omega) (by omega)).trans rfl
theorem cutA_at {t : Str} {i c : Nat} (hc : t.cps.toList[i]? = some c) : cutA t i = if c = 32 ∨ c = 10 then cutA t (i + 1) else
    match wrdE t i with
    | none => none
    | some e => (cutA t e).map ((i, e) :: ·) := by
  have hl : i < t.length := by
    rw [str_len]
    exact len_at hc
  unfold cutA
  rw [cutF_fuel t.length (t.length + 1) i (by omega) (by omega)]
  show (match t.cps.toList[i]? with
    | none => some []
    | some c => if c = 32 ∨ c = 10 then cutF t.length t (i + 1) else
      match wrdE t i with
      | none => none
      | some e => (cutF t.length t e).map ((i, e) :: ·)) = _
  rw [hc]
theorem cutA_blank {t : Str} {i c : Nat} (hc : t.cps.toList[i]? = some c) (h : c = 32 ∨ c = 10) : cutA t i = cutA t (i + 1) := by
  rw [cutA_at hc, if_pos h]
theorem cutA_fault {t : Str} {i c : Nat} (hc : t.cps.toList[i]? = some c) (h : ¬ (c = 32 ∨ c = 10)) (hw : wrdE t i = none) : cutA t i = none := by
  rw [cutA_at hc, if_neg h, hw]
theorem cutA_word {t : Str} {i c e : Nat} (hc : t.cps.toList[i]? = some c) (h : ¬ (c = 32 ∨ c = 10)) (hw : wrdE t i = some e) : cutA t i = (cutA t e).map ((i, e) :: ·) := by
  rw [cutA_at hc, if_neg h, hw]
/-- words in their order -/
def Chn (n : Nat) : Nat → List (Nat × Nat) → Prop
  | _, [] => True
  | i, (b, e) :: r => i ≤ b ∧ b < e ∧ e ≤ n ∧ Chn n e r
theorem Chn.mono {n : Nat} : ∀ {l : List (Nat × Nat)} {i j : Nat}, Chn n j l → i ≤ j → Chn n i l
  | [], _, _, _, _ => trivial
  | (b, e) :: r, i, j, h, hij => ⟨Nat.le_trans hij h.1, h.2⟩
theorem cutF_chn {t : Str} : ∀ (n i : Nat) (l : List (Nat × Nat)), cutF n t i = some l → Chn t.length i l
  | 0, i, l, h => by
    cases h
    trivial
  | n + 1, i, l, h => by
    unfold cutF at h
    split at h
    · cases h
      trivial
    · split at h
      · exact (cutF_chn n (i + 1) l h).mono (by omega)
      · split at h
        · cases h
        · rename_i e he
          obtain ⟨r, hr, rfl⟩ := Option.map_eq_some_iff.mp h
          have := wrd_in he
          exact ⟨Nat.le_refl _, this.1, this.2, cutF_chn n e r hr⟩
/-- the text of a word -/
def sl (t : Str) (p : Nat × Nat) : Str := cutS t (some (p.1 : Int)) (some (p.2 : Int))
theorem sl_len {t : Str} {b e : Nat} (h : b ≤ e) (he : e ≤ t.length) : (sl t (b, e)).length = e - b := by
  unfold sl
  rw [cut2 t h, str_len]
  show ((t.cps.toList.drop b).take (e - b)).length = e - b
  rw [List.length_take, List.length_drop, ← str_len]
  omega
theorem two_words {t x y : Str} {l : List (Nat × Nat)} (ht : t.length = x.length + y.length) (h : cutA t 0 = some l) (hl : l.map (sl t) = [x, y]) : l.map (·.1) = [0, x.length] := by
  have c := cutF_chn _ _ _ h
  match l, hl, c with
  | [], hl, _ => cases hl
  | [p], hl, _ => simp at hl
  | [(b1, e1), (b2, e2)], hl, c =>
    obtain ⟨h1, h2, h3, h4, h5, h6, _⟩ := c
    rw [List.map_cons, List.map_cons, List.map_nil] at hl
    injection hl with q1 hl
    injection hl with q2 _
    have l1 := sl_len (t := t) (Nat.le_of_lt h2) h3
    have l2 := sl_len (t := t) (Nat.le_of_lt h5) h6
    rw [q1] at l1
    rw [q2] at l2
    show [b1, b2] = [0, x.length]
    have a : b1 = 0 := by omega
    have b : b2 = x.length := by omega
    rw [a, b]
  | _ :: _ :: _ :: _, hl, _ => simp at hl

open LamX (CodeO TabS Tabs ExtN TabB)
theorem Tabs.putL {T : List (Addr × Str)} {H : Hp} {p : Addr} {xs ys : List V} (t : Tabs T H) (h : H p = some (.lst xs)) : Tabs T (upd H p (.lst ys)) := fun q hq => by
  obtain ⟨ps, h1, tri, k⟩ := t q hq
  have keep : ∀ {a : Addr} {u : HO}, H a = some u → (∀ ys, u ≠ .lst ys) → upd H p (.lst ys) a = some u := fun {a u} ha n => by
    rw [upd_ne fun z => by
      rw [z, h] at ha
      exact n _ (Option.some.inj ha).symm]
    exact ha
  refine ⟨ps, keep h1 (fun ys z => by cases z), tri, fun pos cv hc => ?_⟩
  obtain ⟨c1, e1, e2⟩ := k pos cv hc
  exact ⟨c1, e1, keep e2 (fun ys z => by unfold CodeO at z; cases z)⟩
theorem ExtN.put {H H' : Hp} {p : Addr} {o : HO} (e : ExtN H H') (n : H p = none) : ExtN H (upd H' p o) := fun b u h q => by
  rw [upd_ne (ne_of_none h n)]
  exact e b u h q
def pD (t : Str) (p : Nat × Nat) : PyData := .tuple [.str (sl t p), .int p.1]
def cutD (t : Str) (l : List (Nat × Nat)) (f : PyData) : PyData := .tuple [.list (l.map (pD t)), f]
def spCutL (K : PySem.W.Frag) (tp : Addr) : Sp := fun vs H Q _ => ∃ (t : Str), vs = [.str t] ∧ t.length ≤ 400 ∧ Tabs (tbl tp) H ∧
  ∀ (p : Addr) (l : List (Nat × Nat)) (f : PyData) (H' : Hp), ExtN H H' → Tabs (tbl tp) H' → (∀ H2, Same H' H2 → Dp K H2 (.ref p) (cutD t l f)) → (∀ x ∈ l, x.1 < t.length) →
    ((cutA t 0 = some l ∧ f = .none) ∨ (cutA t 0 = none ∧ ∃ i : Nat, i < t.length ∧ f = .int i)) → Q (.ref p) H'
theorem c_l_cut (T : Txt K mg w) {tp : Addr} (c_l_word_end : Cal P w K mg base 4 "_law_word_end" (spWE tp) []) : Cal P w K mg base 5 "_law_cut" (spCutL K tp) [] := by
  refine calOf T.d_l_cut sc_l_cut (fun vs H Q E h => ?_) (fun f cdv A outer s H vs Q E hr h => ?_)
  · obtain ⟨t, rfl, _⟩ := h
    rfl
  · obtain ⟨t, rfl, hl, tb, k⟩ := h
    have hz : t.length ≤ sizeLine := Nat.le_trans hl (by decide)
    refine ⟨_,
      (pss_cons (ps_par (i := 1) (j := 2) (by rfl) sc_l_cut.nd rfl rfl (by decide) rfl rfl (pa_cons (pe_lst pa_nil) (pa_cons pe_int pa_nil)) (by rfl))
        (pss_cons (ps_while PassesOwn.never (pt_cmpR op_lt (pv 2) (pe_callB call_len (by rfl) T.n_len PySem.boot_len (pa_cons (pv 0) pa_nil)) (nomark _))
        (pss_one (ps_if (pt_cmpR op_in_sign (pe_ix ix_str (pv 0) (pv 2) (fun _ _ => rfl)) pe_str (by rfl))
        (pss_one (ps_aug (i := 2) sc_l_cut.nd rfl (Or.inl rfl) pe_int ip_add))
        (pss_cons (ps_set (i := 3) sc_l_cut.nd rfl (Or.inl rfl) (pe_c c_l_word_end hr (by first | decide | omega) rfl (pa_cons (pv 0) (pa_cons (pv 2) pa_nil))))
        (pss_cons (ps_if (pt_cmpR op_isN (pv 3) pe_non (nomark _))
        (pss_one (ps_ret (pe_tup (pa_cons (pv 1) (pa_cons (pv 2) pa_nil)))))
        pss_nil)
        (pss_cons (ps_expr (pe_bm PySem.F.plainAttrs_list PySem.F.slot_list_append PySem.F.type_list_append mt_append (pv 1) (pa_cons (pe_tup (pa_cons (pe_slice sl_str (pv 0) (po_some (pv 2)) (po_some (pv 3))) (pa_cons (pv 2) pa_nil))) pa_nil)))
        (pss_one (ps_set (i := 2) sc_l_cut.nd rfl (Or.inl rfl) (pv 3)))))))))
        (pss_one (ps_ret (pe_tup (pa_cons (pv 1) (pa_cons pe_non pa_nil)))))))
      , ?_⟩
    refine ⟨by decide, fun F hF => ⟨_, _, rfl, ?_⟩⟩
    refine ⟨fun m σ' H' => ∃ (l : List (Nat × Nat)) (vs : List V) (j : Nat) (v3 : Option V), σ' = [some (.str t), some (.ref F), some (.int j), v3] ∧ H' F = some (.lst vs) ∧ TrAll H' vs (l.map (pD t)) ∧ (∀ x ∈ l, x.1 < t.length) ∧
        (cutA t j).map (l ++ ·) = cutA t 0 ∧ l.length ≤ j ∧ j ≤ t.length ∧ ExtN H H' ∧ Tabs (tbl tp) H' ∧ m = t.length - j,
      ⟨_, [], [], 0, none, rfl, upd_same, .nil, (fun x hx => by cases hx), ?_, Nat.le_refl _, Nat.zero_le _, Same.ext (same_new hF), Tabs.same tb (same_new hF), rfl⟩, ?_⟩
    · show (cutA t 0).map (fun x => [] ++ x) = _
      cases cutA t 0 <;> rfl
    rintro m σ' H1 ⟨l, vs, j, v3, rfl, hf, tr, okl, hc0, lj, jt, ex, tb1, rfl⟩
    refine ⟨_, rfl, _, rfl, _, t.length, rfl, ⟨hz, rfl⟩, _, _, rfl, rfl, _, rfl, ?_⟩
    refine ite2 (fun h1 => ?_) (fun h1 => ?_)
    · have hlt : j < t.length := by
        have := of_decide_eq_true h1
        omega
      obtain ⟨c, hc⟩ := at_lt hlt
      refine ⟨fun σ' H2 => ∃ m', m' < t.length - j ∧ ∃ (l : List (Nat × Nat)) (vs : List V) (j : Nat) (v3 : Option V), σ' = [some (.str t), some (.ref F), some (.int j), v3] ∧ H2 F = some (.lst vs) ∧ TrAll H2 vs (l.map (pD t)) ∧ (∀ x ∈ l, x.1 < t.length) ∧
        (cutA t j).map (l ++ ·) = cutA t 0 ∧ l.length ≤ j ∧ j ≤ t.length ∧ ExtN H H2 ∧ Tabs (tbl tp) H2 ∧ m' = t.length - j, fun _ _ h => h, ?_⟩
      refine ⟨_, rfl, _, rfl, _, _, c, rfl, rfl, hz, atI_nat hc, c, _, rfl, rfl, _, rfl, ?_⟩
      refine ite2 (fun h2 => ?_) (fun h2 => ?_)
      · have bl : c = 32 ∨ c = 10 := by
          have : c ∈ [32, 10] := of_decide_eq_true h2
          simpa using this
        refine ⟨_, rfl, _, _, rfl, rfl, ?_⟩
        exact ⟨_, (by omega : t.length - (j + 1) < t.length - j), l, vs, j + 1, v3, rfl, hf, tr, okl, by rw [← hc0, cutA_blank hc bl], by omega, by omega, ex, tb1, rfl⟩
      · have bl : ¬ (c = 32 ∨ c = 10) := fun z => h2 (decide_eq_true (p := c ∈ [32, 10]) (by simpa using z))
        refine ⟨_, rfl, _, rfl, t, j, rfl, hz, hlt, tb1, fun H2 e2 tb2 => ?_⟩
        have hf2 := ExtN.lst e2 hf
        have tr2 := tr.keep (ExtN.tk' e2)
        have ex2 := ExtN.trans ex e2
        cases hw : wrdE t j with
        | none =>
          refine ⟨_, rfl, rfl, _, rfl, ?_⟩
          rw [decide_eq_true (show optV none = V.non from rfl)]
          refine iteT ?_
          refine ⟨_, rfl, _, rfl, by show 2 ≤ sizeLine; decide, fun p hp => ?_⟩
          have s3 := same_new (o := .tup [.ref F, .int j]) hp
          refine k p l (.int j) _ (ExtN.trans ex2 (Same.ext s3)) (Tabs.same tb2 s3) ?_ okl (.inr ⟨?_, j, hlt, rfl⟩)
          · exact fun H4 s4 => .tup (SqT.of (s4 _ _ upd_same)) (.cons (.lst (SqL.of (s4 _ _ (upd_some hf2 hp))) ((tr2.new hp).keep (Tk.of s4)).dp) (.cons (.int _) .nil))
          · rw [← hc0, cutA_fault hc bl hw]
            rfl
        | some e =>
          have wi := wrd_in hw
          refine ⟨_, rfl, rfl, _, rfl, ?_⟩
          refine ite2 (fun h3 => ?_) (fun h3 => ?_)
          · have := of_decide_eq_true h3
            cases this
          refine ⟨_, rfl, .inl ⟨rfl, _, SqL.of hf2⟩, _, rfl, _, rfl, _, rfl, _, rfl, _, rfl, _, rfl, hz, _, rfl, by show 2 ≤ sizeLine; decide, fun p hp => ⟨F, vs, .ref p, rfl, rfl, upd_some hf2 hp, ?_, ?_⟩⟩
          · have := tr2.len
            rw [List.length_map] at this
            rw [this]
            exact Nat.lt_of_lt_of_le (show l.length < 1000 by omega) (by decide)
          refine ⟨_, rfl, ?_⟩
          have np : p ≠ F := fun z => by
            rw [z, hf2] at hp
            cases hp
          have hp3 : upd (upd H2 p (.tup [.str (sl t (j, e)), .int j])) F (.lst (vs ++ [.ref p])) p = some (.tup [.str (sl t (j, e)), .int j]) := by
            rw [upd_ne np, upd_same]
          have tk3 : Tk H2 (upd (upd H2 p (.tup [.str (sl t (j, e)), .int j])) F (.lst (vs ++ [.ref p]))) := ((Tk.refl H2).new hp).put fun xs z => by
            rw [hf2] at z
            cases z
          have ex3 : ExtN H (upd (upd H2 p (.tup [.str (sl t (j, e)), .int j])) F (.lst (vs ++ [.ref p]))) := ExtN.put (ExtN.trans ex2 (Same.ext (same_new hp))) hF
          have tb3 : Tabs (tbl tp) (upd (upd H2 p (.tup [.str (sl t (j, e)), .int j])) F (.lst (vs ++ [.ref p]))) := Tabs.putL (Tabs.same tb2 (same_new hp)) (upd_some hf2 hp)
          refine ⟨_, (by omega : t.length - e < t.length - j), l ++ [(j, e)], vs ++ [.ref p], e, _, rfl, upd_same, ?_, ?_, ?_, ?_, wi.2, ex3, tb3, rfl⟩
          · rw [List.map_append]
            exact (tr2.keep tk3).app (.cons (.tup hp3 (.cons (.str _) (.cons (.int _) .nil))) .nil)
          · intro x hx
            rcases List.mem_append.mp hx with h | h
            · exact okl x h
            · rw [List.mem_singleton.mp h]
              exact hlt
          · rw [← hc0, cutA_word hc bl hw]
            cases cutA t e with
            | none => rfl
            | some r =>
              show some ((l ++ [(j, e)]) ++ r) = some (l ++ ((j, e) :: r))
              rw [List.append_assoc]
              rfl
          · rw [List.length_append]
            show l.length + 1 ≤ e
            omega
    · have hge : t.length ≤ j := by
        have : ¬ ((j : Int) < (t.length : Int)) := fun q => h1 (decide_eq_true q)
        omega
      refine ⟨_, rfl, by show 2 ≤ sizeLine; decide, fun p hp => ?_⟩
      have s3 := same_new (o := .tup [.ref F, .non]) hp
      refine k p l .none _ (ExtN.trans ex (Same.ext s3)) (Tabs.same tb1 s3) ?_ okl (.inl ⟨?_, rfl⟩)
      · exact fun H4 s4 => .tup (SqT.of (s4 _ _ upd_same)) (.cons (.lst (SqL.of (s4 _ _ (upd_some hf hp))) ((tr.new hp).keep (Tk.of s4)).dp) (.cons .non .nil))
      · rw [← hc0, cutA_end hge]
        show some (l ++ []) = _
        rw [List.append_nil]

open LamX (CodeO TabS Tabs ExtN TabB)
def prD (a : Str × Int) : PyData := .tuple [.str a.1, .int a.2]
theorem eqv_pr (a b : Str × Int) : PyData.eqv (prD a) (prD b) = decide (a = b) := by
  obtain ⟨x, i⟩ := a
  obtain ⟨y, j⟩ := b
  show ((x == y) && ((i == j) && true)) = _
  rw [Bool.and_true, Bool.eq_iff_iff, Bool.and_eq_true, beq_iff_eq, beq_iff_eq, decide_eq_true_iff, Prod.mk.injEq]
theorem eqv_prs : ∀ (l m : List (Str × Int)), PyData.eqvAll (l.map prD) (m.map prD) = decide (l = m)
  | [], [] => rfl
  | [], _ :: _ => rfl
  | _ :: _, [] => rfl
  | a :: l, b :: m => by
    show (PyData.eqv (prD a) (prD b) && PyData.eqvAll (l.map prD) (m.map prD)) = _
    rw [eqv_pr, eqv_prs l m, Bool.eq_iff_iff, Bool.and_eq_true, decide_eq_true_iff, decide_eq_true_iff, decide_eq_true_iff, List.cons.injEq]
def dueP (x y : Str) : PyData := .tuple [.list [.tuple [.str x, .int 0], .tuple [.str y, .int x.length]], .none]
theorem eqv_cut (t x y : Str) (l : List (Nat × Nat)) (f : PyData) : PyData.eqv (cutD t l f) (dueP x y) = (decide (l.map (fun p => (sl t p, (p.1 : Int))) = [(x, (0 : Int)), (y, (x.length : Int))]) && PyData.eqv f .none) := by
  show (PyData.eqvAll (l.map (pD t)) ([(x, (0 : Int)), (y, (x.length : Int))].map prD) && (PyData.eqv f .none && true)) = _
  have e : l.map (pD t) = (l.map (fun p => (sl t p, (p.1 : Int)))).map prD := by rw [List.map_map] <;> rfl
  rw [e, eqv_prs, Bool.and_true]
theorem pairs_iff {t x y : Str} {l : List (Nat × Nat)} (ht : t.length = x.length + y.length) (h : cutA t 0 = some l) :
    (l.map (fun p => (sl t p, (p.1 : Int))) = [(x, (0 : Int)), (y, (x.length : Int))]) ↔ l.map (sl t) = [x, y] := by
  constructor
  · intro q
    have := congrArg (List.map Prod.fst) q
    rw [List.map_map] at this
    exact this
  · intro q
    have w := two_words ht h q
    match l, q, w with
    | [p, r], q, w =>
      have q : [sl t p, sl t r] = [x, y] := q
      have w : [p.1, r.1] = [0, x.length] := w
      injection q with q1 q
      injection q with q2 _
      injection w with w1 w
      injection w with w2 _
      show [(sl t p, (p.1 : Int)), (sl t r, (r.1 : Int))] = _
      rw [q1, q2, w1, w2]
      rfl
def doE (x y : Str) : Bool :=
  match cutA (x ++ y) 0 with
  | some l => decide (l.map (sl (x ++ y)) = [x, y])
  | none => false
theorem pD_shaped {t x y : Str} {l : List (Nat × Nat)} {f : PyData} (nt : Nice t) (hl : ∀ p ∈ l, p.1 < 1000) (hf : f = .none ∨ ∃ i : Nat, i < 1000 ∧ f = .int i) : SeqAt.shaped (cutD t l f) = true := by
  have small : ∀ i : Nat, i < 1000 → tame (.int i) = true := fun i h => by
    show decide ((i : Int).natAbs < 10 ^ 30) = true
    refine decide_eq_true (Nat.lt_of_lt_of_le (m := 1000) ?_ (by decide))
    omega
  have a : ∀ l : List (Nat × Nat), (∀ p ∈ l, p.1 < 1000) → tameAll (l.map (pD t)) = true ∧ PyData.depthAll (l.map (pD t)) ≤ 1 := by
    intro l
    induction l with
    | nil => exact fun _ => ⟨rfl, Nat.zero_le _⟩
    | cons p r ih =>
      intro h
      obtain ⟨h1, h2⟩ := ih fun q hq => h q (List.mem_cons_of_mem _ hq)
      refine ⟨?_, Nat.max_le.mpr ⟨Nat.le_refl 1, h2⟩⟩
      show ((tame (.str (sl t p)) && (tame (.int p.1) && true)) && tameAll (r.map (pD t))) = true
      have e : tame (.str (sl t p)) = true := (nt.cut _ _ : Nice (sl t p)).tame
      rw [small _ (h p (List.mem_cons_self ..)), h1, e]
      rfl
  obtain ⟨h1, h2⟩ := a l hl
  have hf1 : tame f = true ∧ f.depth = 0 := by
    rcases hf with rfl | ⟨i, hi, rfl⟩
    · exact ⟨rfl, rfl⟩
    · exact ⟨small i hi, rfl⟩
  unfold SeqAt.shaped
  rw [Bool.and_eq_true]
  refine ⟨(tame_ok (cutD t l f) ?_).2.2, decide_eq_true ?_⟩
  · show (tameAll (l.map (pD t)) && (tame f && true)) = true
    rw [h1, hf1.1]
    rfl
  · show max (PyData.depthAll (l.map (pD t)) + 1) (max f.depth 0) + 1 ≤ 64
    rw [hf1.2]
    omega
def spDo (tp : Addr) : Sp := fun vs H Q _ => ∃ (x y : Str), vs = [.str x, .str y] ∧ x.length ≤ 100 ∧ y.length ≤ 100 ∧ Nice x ∧ Nice y ∧ Tabs (tbl tp) H ∧ ∀ H', ExtN H H' → Tabs (tbl tp) H' → Q (.bl (doE x y)) H'
theorem c_l_do_part (T : Txt K mg w) {tp : Addr} (c_l_cut : Cal P w K mg base 5 "_law_cut" (spCutL K tp) []) : Cal P w K mg base 6 "_law_do_part" (spDo tp) [] := by
  refine calOf T.d_l_do_part sc_l_do_part (fun vs H Q E h => ?_) (fun f cdv A outer s H vs Q E hr h => ?_)
  · obtain ⟨x, y, rfl, _⟩ := h
    rfl
  · obtain ⟨x, y, rfl, lx, ly, nx, ny, tb, k⟩ := h
    have ll : (x ++ y).length = x.length + y.length := Str.length_append _ _
    have nt := nx.cat ny
    refine ⟨_,
      (pss_one (ps_ret (pe_cmpR (op_eqD hr.units) (pe_c c_l_cut hr (by first | decide | omega) rfl (pa_cons (pe_op op_add_str (pv 0) (pv 1)) pa_nil)) (pe_tup (pa_cons (pe_lst (pa_cons (pe_tup (pa_cons (pv 0) (pa_cons pe_int pa_nil))) (pa_cons (pe_tup (pa_cons (pv 1) (pa_cons (pe_callB call_len (by rfl) T.n_len PySem.boot_len (pa_cons (pv 0) pa_nil)) pa_nil))) pa_nil))) (pa_cons pe_non pa_nil))) (nomark _))))
      , ?_⟩
    refine ⟨_, rfl, _, rfl, _, _, rfl, rfl, Nat.le_trans (show x.length + y.length ≤ 200 by omega) (by decide), x ++ y, rfl, by omega, tb, fun p l f H1 e1 tb1 dp okl hc => ?_⟩
    refine ⟨_, rfl, by show 2 ≤ sizeLine; decide, fun p1 hp1 => ?_⟩
    refine ⟨_, rfl, _, rfl, _, x.length, rfl, ⟨Nat.le_trans lx (by decide), rfl⟩, by show 2 ≤ sizeLine; decide, fun p2 hp2 => ?_⟩
    refine ⟨by show 2 ≤ sizeLine; decide, fun p3 hp3 => ⟨by show 2 ≤ sizeLine; decide, fun p4 hp4 => ?_⟩⟩
    have s4 := (((same_new (o := .tup [.str x, .int 0]) hp1).trans (same_new (o := .tup [.str y, .int x.length]) hp2)).trans (same_new (o := .lst [.ref p1, .ref p2]) hp3)).trans (same_new (o := .tup [.ref p3, .non]) hp4)
    have dd : Dp K (upd (upd (upd (upd H1 p1 (.tup [.str x, .int 0])) p2 (.tup [.str y, .int x.length])) p3 (.lst [.ref p1, .ref p2])) p4 (.tup [.ref p3, .non])) (.ref p4) (dueP x y) :=
      .tup (SqT.of upd_same) (.cons (.lst (SqL.of (upd_some upd_same hp4)) (.cons (.tup (SqT.of (upd_some (upd_some (upd_some upd_same hp2) hp3) hp4)) (.cons (.str x) (.cons (.int _) .nil))) (.cons (.tup (SqT.of (upd_some (upd_some upd_same hp3) hp4)) (.cons (.str y) (.cons (.int _) .nil))) .nil))) (.cons .non .nil))
    have sd : SeqAt.shaped (dueP x y) = true := by
      unfold SeqAt.shaped
      rw [Bool.and_eq_true]
      refine ⟨(tame_ok (dueP x y) ?_).2.2, decide_eq_true (by show max (max (max 0 (max 0 0) + 1) (max (max 0 (max 0 0) + 1) 0) + 1) (max 0 0) + 1 ≤ 64; decide)⟩
      have e : tame (.int x.length) = true := by
        show decide ((x.length : Int).natAbs < 10 ^ 30) = true
        refine decide_eq_true (Nat.lt_of_lt_of_le (m := 1000) ?_ (by decide))
        omega
      show (((tame (.str x) && (tame (.int 0) && true)) && ((tame (.str y) && (tame (.int x.length) && true)) && true)) && true) = true
      rw [nx.tame, ny.tame, e]
      decide
    refine ⟨_, _, dp _ s4, dd, ?_, sd, ?_⟩
    · refine pD_shaped (x := x) (y := y) nt (fun q hq => by have := okl q hq; omega) ?_
      rcases hc with ⟨_, h⟩ | ⟨_, i, hi, h⟩
      · exact .inl h
      · exact .inr ⟨i, by omega, h⟩
    · rw [eqv_cut]
      have k := k _ (ExtN.trans e1 (Same.ext s4)) (Tabs.same tb1 s4)
      unfold doE at k
      rcases hc with ⟨h, rfl⟩ | ⟨h, i, _, rfl⟩
      · rw [h] at k
        rw [decide_eq_decide.mpr (pairs_iff ll h)]
        show Q (V.bl (_ && true)) _
        rw [Bool.and_true]
        exact k
      · rw [h] at k
        show Q (V.bl (_ && false)) _
        rw [Bool.and_false]
        exact k

/-- of a text and a place, some object -/
def spPl : Sp := fun vs H Q _ => ∃ (t : Str) (i : Nat), vs = [.str t, .int i] ∧ ∀ p H', Same H H' → Q (.ref p) H'
theorem c_p_place_of (T : Txt K mg w) : Cal P w K mg base 1 "place_of" spPl [] := by
  refine calOf T.d_p_place_of sc_p_place_of (fun vs H Q E h => ?_) (fun f cdv A outer s H vs Q E hr h => ?_)
  · obtain ⟨t, i, rfl, _⟩ := h
    rfl
  · obtain ⟨t, i, rfl, k⟩ := h
    refine ⟨_,
      (pss_cons (ps_set (i := 2) sc_p_place_of.nd rfl (Or.inl rfl) (pe_op op_add (pe_bm PySem.F.plainAttrs_str PySem.F.slot_str_rfind PySem.F.type_str_rfind mt_rfind4 (pv 0) (pa_cons pe_str (pa_cons pe_int (pa_cons (pv 1) pa_nil)))) pe_int))
        (pss_one (ps_ret (pe_tup (pa_cons (pe_bm PySem.F.plainAttrs_str PySem.F.slot_str_count PySem.F.type_str_count mt_count4 (pv 0) (pa_cons pe_str (pa_cons pe_int (pa_cons (pv 1) pa_nil)))) (pa_cons (pe_op op_sub (pv 1) (pv 2)) pa_nil))))))
      , ?_⟩
    refine ⟨_, rfl, rfl, _, rfl, _, _, _, _, rfl, rfl, _, _, rfl, rfl, ?_⟩
    refine ⟨_, rfl, rfl, _, rfl, _, _, _, _, rfl, rfl, ?_⟩
    refine ⟨_, rfl, _, rfl, _, _, rfl, rfl, by show 2 ≤ sizeLine; decide, fun p hp => ?_⟩
    exact k p _ (same_new hp)
/-- where the reading goes on behind a fault -/
def spBh : Sp := fun vs H Q _ => ∃ (t r : Str) (i c : Nat), vs = [.str t, .int i, .str r] ∧ t.length ≤ sizeLine ∧ t.cps.toList[i]? = some c ∧ c ≠ 10 ∧ ∀ j : Nat, i < j → j ≤ t.length → Q (.int j) H
theorem c_p_behind_fault (T : Txt K mg w) (c_p_line_end : Cal P w K mg base 1 "line_end" (spAt fun t i => .int (runE notNl t.cps.toList i)) []) : Cal P w K mg base 2 "_behind_fault" spBh [] := by
  refine calOf T.d_p_behind_fault sc_p_behind_fault (fun vs H Q E h => ?_) (fun f cdv A outer s H vs Q E hr h => ?_)
  · obtain ⟨t, r, i, c, rfl, _⟩ := h
    rfl
  · obtain ⟨t, r, i, c, rfl, hz, hc, nc, k⟩ := h
    have hi : i < t.length := by
      rw [str_len]
      exact len_at hc
    refine ⟨_,
      (pss_cons (ps_if (pt_cmpR op_eq (pv 2) pe_str (nomark _))
        (pss_one (ps_ret (pe_op op_add (pv 1) pe_int)))
        pss_nil)
        (pss_cons (ps_if (pt_cmpR op_eq (pv 2) pe_str (nomark _))
        (pss_one (ps_ret (pe_c c_p_line_end hr (by first | decide | omega) rfl (pa_cons (pv 0) (pa_cons (pv 1) pa_nil)))))
        pss_nil)
        (pss_one (ps_ret (pe_callB call_len (by rfl) T.n_len PySem.boot_len (pa_cons (pv 0) pa_nil))))))
      , ?_⟩
    refine ⟨_, rfl, rfl, _, rfl, ?_⟩
    refine ite2 (fun _ => ?_) (fun _ => ?_)
    · exact ⟨_, rfl, _, _, rfl, rfl, k (i + 1) (by omega) hi⟩
    refine ⟨_, rfl, rfl, _, rfl, ?_⟩
    refine ite2 (fun _ => ?_) (fun _ => ?_)
    · refine ⟨_, rfl, _, rfl, t, i, rfl, hz, hi, k _ (run_gt hc ?_) ?_⟩
      · unfold notNl
        rw [decide_eq_false nc]
        rfl
      · rw [str_len]
        exact run_le (Nat.le_of_lt (len_at hc))
    · exact ⟨_, rfl, _, t.length, rfl, ⟨hz, rfl⟩, k _ hi (Nat.le_refl _)⟩
/-- a token: its kind, its begin and end -/
abbrev Tk3 := Str × (Nat × Nat)
def tkD (t : Str) (x : Tk3) : PyData := .tuple [.str x.1, .str (sl t x.2), .int x.2.1]
def tot (l : List Tk3) : Nat := (l.map fun x => x.2.2 - x.2.1).sum
theorem tot_snoc (l : List Tk3) (x : Tk3) : tot (l ++ [x]) = tot l + (x.2.2 - x.2.1) := by
  unfold tot
  rw [List.map_append, List.sum_append]
  simp
def spCutP : Sp := fun vs H Q _ => ∃ (t : Str), vs = [.str t] ∧ t.length ≤ 400 ∧
  ∀ (p q : Addr) (fv : V) (vs : List V) (toks : List Tk3) (H' : Hp), Same H H' → H' p = some (.tup [.ref q, fv]) → H' q = some (.tup vs) → TrAll H' vs (toks.map (tkD t)) → (∀ x ∈ toks, x.2.1 ≤ x.2.2 ∧ x.2.2 ≤ t.length) → toks.length ≤ t.length →
    (cutA t 0 = some (toks.map (·.2)) ∨ (cutA t 0 = none ∧ tot toks < t.length)) → Q (.ref p) H'
theorem c_p_cut (T : Txt K mg w) (c_p_word_at : Cal P w K mg base 3 "word_at" spWA []) (c_p_place_of : Cal P w K mg base 1 "place_of" spPl []) (c_p_behind_fault : Cal P w K mg base 2 "_behind_fault" spBh []) :
    Cal P w K mg base 4 "cut" spCutP [] := by
  refine calOf T.d_p_cut sc_p_cut (fun vs H Q E h => ?_) (fun f cdv A outer s H vs Q E hr h => ?_)
  · obtain ⟨t, rfl, _⟩ := h
    rfl
  · obtain ⟨t, rfl, hl, k⟩ := h
    have hz : t.length ≤ sizeLine := Nat.le_trans hl (by decide)
    refine ⟨_,
      (pss_cons (ps_set (i := 1) sc_p_cut.nd rfl (Or.inl rfl) (pe_lst pa_nil))
        (pss_cons (ps_set (i := 2) sc_p_cut.nd rfl (Or.inl rfl) (pe_lst pa_nil))
        (pss_cons (ps_set (i := 3) sc_p_cut.nd rfl (Or.inl rfl) pe_int)
        (pss_cons (ps_while PassesOwn.never (pt_cmpR op_lt (pv 3) (pe_callB call_len (by rfl) T.n_len PySem.boot_len (pa_cons (pv 0) pa_nil)) (nomark _))
        (pss_cons (ps_if (pt_cmpR op_in_sign (pe_ix ix_str (pv 0) (pv 3) (fun _ _ => rfl)) pe_str (by rfl))
        (pss_cons (ps_aug (i := 3) sc_p_cut.nd rfl (Or.inl rfl) pe_int ip_add)
        (pss_one ps_continue))
        pss_nil)
        (pss_cons (ps_asg (pe_c c_p_word_at hr (by first | decide | omega) rfl (pa_cons (pv 0) (pa_cons (pv 3) pa_nil))) (pg_tup rfl (pgs_cons (pg_name (i := 4) sc_p_cut.nd rfl (Or.inl rfl)) (pgs_cons (pg_name (i := 5) sc_p_cut.nd rfl (Or.inl rfl)) pgs_nil))))
        (pss_one (ps_if (pt_cmpR op_isN (pv 5) pe_non (nomark _))
        (pss_cons (ps_expr (pe_bm PySem.F.plainAttrs_list PySem.F.slot_list_append PySem.F.type_list_append mt_append (pv 2) (pa_cons (pe_tup (pa_cons (pe_c c_p_place_of hr (by first | decide | omega) rfl (pa_cons (pv 0) (pa_cons (pv 3) pa_nil))) (pa_cons (pv 4) pa_nil))) pa_nil)))
        (pss_one (ps_set (i := 3) sc_p_cut.nd rfl (Or.inl rfl) (pe_c c_p_behind_fault hr (by first | decide | omega) rfl (pa_cons (pv 0) (pa_cons (pv 3) (pa_cons (pv 4) pa_nil)))))))
        (pss_cons (ps_expr (pe_bm PySem.F.plainAttrs_list PySem.F.slot_list_append PySem.F.type_list_append mt_append (pv 1) (pa_cons (pe_tup (pa_cons (pv 4) (pa_cons (pe_slice sl_str (pv 0) (po_some (pv 3)) (po_some (pv 5))) (pa_cons (pv 3) pa_nil)))) pa_nil)))
        (pss_one (ps_set (i := 3) sc_p_cut.nd rfl (Or.inl rfl) (pv 5)))))))))
        (pss_one (ps_ret (pe_tup (pa_cons (pe_callTy call_tuple_of (by rfl) T.n_tuple (by decide +kernel) (pa_cons (pv 1) pa_nil)) (pa_cons (pe_callTy call_tuple_of (by rfl) T.n_tuple (by decide +kernel) (pa_cons (pv 2) pa_nil)) pa_nil)))))))))
      , ?_⟩
    refine ⟨by decide, fun L hL => ⟨by decide, fun F hF => ?_⟩⟩
    have hFL : F ≠ L := fun z => by
      rw [z, upd_same] at hF
      cases hF
    have hF0 : H F = none := by
      rw [upd_ne hFL] at hF
      exact hF
    refine ⟨fun m σ' H' => ∃ (toks : List Tk3) (vs fs : List V) (j : Nat) (v4 v5 : Option V), σ' = [some (.str t), some (.ref L), some (.ref F), some (.int j), v4, v5] ∧ H' L = some (.lst vs) ∧ TrAll H' vs (toks.map (tkD t)) ∧ H' F = some (.lst fs) ∧ fs.length ≤ j ∧ toks.length ≤ j ∧ tot toks ≤ j ∧ j ≤ t.length ∧
        (∀ x ∈ toks, x.2.1 ≤ x.2.2 ∧ x.2.2 ≤ t.length) ∧ Same H H' ∧ ((cutA t j).map (toks.map (·.2) ++ ·) = cutA t 0 ∨ (cutA t 0 = none ∧ tot toks < j)) ∧ m = t.length - j,
      ⟨_, [], [], [], 0, none, none, rfl, upd_some upd_same hF, .nil, upd_same, Nat.le_refl _, Nat.le_refl _, Nat.le_refl _, Nat.zero_le _, (fun x hx => by cases hx), (same_new hL).trans (same_new hF), .inl ?_, rfl⟩, ?_⟩
    · show (cutA t 0).map (fun x => [] ++ x) = _
      cases cutA t 0 <;> rfl
    rintro m σ' H1 ⟨toks, vs, fs, j, v4, v5, rfl, hT, tr, hFs, fj, tj, sj, jt, okt, s1, ab, rfl⟩
    refine ⟨_, rfl, _, rfl, _, t.length, rfl, ⟨hz, rfl⟩, _, _, rfl, rfl, _, rfl, ?_⟩
    refine ite2 (fun h1 => ?_) (fun h1 => ?_)
    · have hlt : j < t.length := by
        have := of_decide_eq_true h1
        omega
      obtain ⟨c, hc⟩ := at_lt hlt
      refine ⟨fun σ' H2 => ∃ m', m' < t.length - j ∧ ∃ (toks : List Tk3) (vs fs : List V) (j : Nat) (v4 v5 : Option V), σ' = [some (.str t), some (.ref L), some (.ref F), some (.int j), v4, v5] ∧ H2 L = some (.lst vs) ∧ TrAll H2 vs (toks.map (tkD t)) ∧ H2 F = some (.lst fs) ∧ fs.length ≤ j ∧ toks.length ≤ j ∧ tot toks ≤ j ∧ j ≤ t.length ∧
        (∀ x ∈ toks, x.2.1 ≤ x.2.2 ∧ x.2.2 ≤ t.length) ∧ Same H H2 ∧ ((cutA t j).map (toks.map (·.2) ++ ·) = cutA t 0 ∨ (cutA t 0 = none ∧ tot toks < j)) ∧ m' = t.length - j, fun _ _ h => h, ?_⟩
      refine ⟨_, rfl, _, rfl, _, _, c, rfl, rfl, hz, atI_nat hc, c, _, rfl, rfl, _, rfl, ?_⟩
      refine ite2 (fun h2 => ?_) (fun h2 => ?_)
      · have bl : c = 32 ∨ c = 10 := by
          have : c ∈ [32, 10] := of_decide_eq_true h2
          simpa using this
        refine ⟨_, rfl, _, _, rfl, rfl, ?_⟩
        refine ⟨_, (by omega : t.length - (j + 1) < t.length - j), toks, vs, fs, j + 1, v4, v5, rfl, hT, tr, hFs, by omega, by omega, by omega, by omega, okt, s1, ?_, rfl⟩
        rcases ab with h | ⟨h, h'⟩
        · exact .inl (by rw [← h, cutA_blank hc bl])
        · exact .inr ⟨h, by omega⟩
      · have bl : ¬ (c = 32 ∨ c = 10) := fun z => h2 (decide_eq_true (p := c ∈ [32, 10]) (by simpa using z))
        refine ⟨_, rfl, _, rfl, t, j, rfl, hz, hlt, fun c' p hc' hp => ?_⟩
        rw [hc] at hc'
        cases hc'
        refine ⟨p, _, rfl, SqT.of upd_same, rfl, _, _, rfl, _, _, rfl, rfl, ?_⟩
        have s2 := same_new (o := .tup [.str (kdA t j c), optV (wrdE t j)]) hp
        generalize hG : upd H1 p (.tup [.str (kdA t j c), optV (wrdE t j)]) = H2 at s2 ⊢
        have hT2 := s2 _ _ hT
        have hF2 := s2 _ _ hFs
        have tr2 := tr.keep (Tk.of s2)
        have s12 := s1.trans s2
        cases hw : wrdE t j with
        | none =>
          refine ⟨_, rfl, rfl, _, rfl, ?_⟩
          rw [decide_eq_true (show optV none = V.non from rfl)]
          refine iteT ?_
          refine ⟨_, rfl, .inl ⟨rfl, _, SqL.of hF2⟩, _, rfl, _, rfl, t, j, rfl, fun q H3 s3 => ?_⟩
          refine ⟨_, rfl, by show 2 ≤ sizeLine; decide, fun p5 hp5 => ⟨F, fs, .ref p5, rfl, rfl, upd_some (s3 _ _ hF2) hp5, Nat.lt_of_lt_of_le (show fs.length < 1000 by omega) (by decide), ?_⟩⟩
          have s35 := s3.trans (same_new (o := .tup [.ref q, .str (kdA t j c)]) hp5)
          have s5 : Same H (upd (upd H3 p5 (.tup [.ref q, .str (kdA t j c)])) F (.lst (fs ++ [.ref p5]))) := same_put (s12.trans s35) hF0
          have hT5 : (upd (upd H3 p5 (.tup [.ref q, .str (kdA t j c)])) F (.lst (fs ++ [.ref p5]))) L = some (.lst vs) := by
            rw [upd_ne (fun z => hFL z.symm)]
            exact s35 _ _ hT2
          have tk5 : Tk H2 (upd (upd H3 p5 (.tup [.ref q, .str (kdA t j c)])) F (.lst (fs ++ [.ref p5]))) := (Tk.of s35).put fun xs z => by
            rw [hF2] at z
            cases z
          refine ⟨_, rfl, _, rfl, _, rfl, t, _, j, c, rfl, hz, hc, fun z => bl (.inr z), fun j2 hj2 hj3 => ?_⟩
          refine ⟨_, (by omega : t.length - j2 < t.length - j), toks, vs, fs ++ [.ref p5], j2, _, _, rfl, hT5, tr2.keep tk5, upd_same, ?_, by omega, by omega, hj3, okt, s5, .inr ⟨?_, by omega⟩, rfl⟩
          · rw [List.length_append]
            show fs.length + 1 ≤ j2
            omega
          · rcases ab with h | ⟨h, _⟩
            · rw [← h, cutA_fault hc bl hw]
              rfl
            · exact h
        | some e =>
          have wi := wrd_in hw
          refine ⟨_, rfl, rfl, _, rfl, ?_⟩
          refine ite2 (fun h3 => ?_) (fun h3 => ?_)
          · have := of_decide_eq_true h3
            cases this
          refine ⟨_, rfl, .inl ⟨rfl, _, SqL.of hT2⟩, _, rfl, _, rfl, _, rfl, _, rfl, _, rfl, _, rfl, _, rfl, hz, _, rfl, by show 3 ≤ sizeLine; decide, fun p5 hp5 => ⟨L, vs, .ref p5, rfl, rfl, upd_some hT2 hp5, ?_, ?_⟩⟩
          · have := tr2.len
            rw [List.length_map] at this
            rw [this]
            exact Nat.lt_of_lt_of_le (show toks.length < 1000 by omega) (by decide)
          refine ⟨_, rfl, ?_⟩
          have n5 : p5 ≠ L := fun z => by
            rw [z, hT2] at hp5
            cases hp5
          have h5 : upd (upd H2 p5 (.tup [.str (kdA t j c), .str (sl t (j, e)), .int j])) L (.lst (vs ++ [.ref p5])) p5 = some (.tup [.str (kdA t j c), .str (sl t (j, e)), .int j]) := by
            rw [upd_ne n5, upd_same]
          have tk5 : Tk H2 (upd (upd H2 p5 (.tup [.str (kdA t j c), .str (sl t (j, e)), .int j])) L (.lst (vs ++ [.ref p5]))) := ((Tk.refl H2).new hp5).put fun xs z => by
            rw [hT2] at z
            cases z
          have s5 : Same H (upd (upd H2 p5 (.tup [.str (kdA t j c), .str (sl t (j, e)), .int j])) L (.lst (vs ++ [.ref p5]))) := same_put (s12.trans (same_new hp5)) hL
          have hF5 : (upd (upd H2 p5 (.tup [.str (kdA t j c), .str (sl t (j, e)), .int j])) L (.lst (vs ++ [.ref p5]))) F = some (.lst fs) := by
            rw [upd_ne hFL]
            exact upd_some hF2 hp5
          refine ⟨_, (by omega : t.length - e < t.length - j), toks ++ [(kdA t j c, (j, e))], vs ++ [.ref p5], fs, e, _, _, rfl, upd_same, ?_, hF5, by omega, ?_, ?_, wi.2, ?_, s5, ?_, rfl⟩
          · rw [List.map_append]
            exact (tr2.keep tk5).app (.cons (.tup h5 (.cons (.str _) (.cons (.str _) (.cons (.int _) .nil)))) .nil)
          · rw [List.length_append]
            show toks.length + 1 ≤ e
            omega
          · rw [tot_snoc]
            show tot toks + (e - j) ≤ e
            omega
          · intro x hx
            rcases List.mem_append.mp hx with h | h
            · exact okt x h
            · rw [List.mem_singleton.mp h]
              exact ⟨Nat.le_of_lt wi.1, wi.2⟩
          · rcases ab with h | ⟨h, h'⟩
            · refine .inl ?_
              rw [← h, cutA_word hc bl hw, List.map_append]
              cases cutA t e with
              | none => rfl
              | some r =>
                show some ((toks.map (·.2) ++ [(j, e)]) ++ r) = some (toks.map (·.2) ++ ((j, e) :: r))
                rw [List.append_assoc]
                rfl
            · refine .inr ⟨h, ?_⟩
              rw [tot_snoc]
              show tot toks + (e - j) < e
              omega
    · have hge : t.length ≤ j := by
        have : ¬ ((j : Int) < (t.length : Int)) := fun q => h1 (decide_eq_true q)
        omega
      refine ⟨_, rfl, L, vs, rfl, .inl ⟨SqL.of hT, fun q hq => ?_⟩⟩
      refine ⟨_, rfl, F, fs, rfl, .inl ⟨SqL.of (upd_some hFs hq), fun q2 hq2 => ⟨by show 2 ≤ sizeLine; decide, fun p hp => ?_⟩⟩⟩
      have s4 := ((same_new (o := .tup vs) hq).trans (same_new (o := .tup fs) hq2)).trans (same_new (o := .tup [.ref q, .ref q2]) hp)
      refine k p q (.ref q2) vs toks _ (s1.trans s4) upd_same (upd_some (upd_some upd_same hq2) hp) (tr.keep (Tk.of s4)) okt (by omega) ?_
      rcases ab with h | ⟨h, h'⟩
      · refine .inl ?_
        rw [← h, cutA_end hge]
        show some (_ ++ []) = _
        rw [List.append_nil]
      · exact .inr ⟨h, by omega⟩

open LamX (CodeO TabS Tabs ExtN TabB)
theorem eqv_strs : ∀ (l m : List Str), PyData.eqvAll (l.map .str) (m.map .str) = decide (l = m)
  | [], [] => rfl
  | [], _ :: _ => rfl
  | _ :: _, [] => rfl
  | a :: l, b :: m => by
    show ((a == b) && PyData.eqvAll (l.map .str) (m.map .str)) = _
    rw [eqv_strs l m, Bool.eq_iff_iff, Bool.and_eq_true, beq_iff_eq, decide_eq_true_iff, decide_eq_true_iff, List.cons.injEq]
theorem strs_depth : ∀ l : List Str, PyData.depthAll (l.map .str) ≤ 1
  | [] => Nat.zero_le _
  | x :: r => Nat.max_le.mpr ⟨Nat.zero_le _, strs_depth r⟩
theorem strs_tame : ∀ {l : List Str}, (∀ x ∈ l, Nice x) → tameAll (l.map .str) = true
  | [], _ => rfl
  | x :: r, h => by
    show (tame (.str x) && tameAll (r.map .str)) = true
    rw [(h x (List.mem_cons_self ..)).tame, strs_tame fun y hy => h y (List.mem_cons_of_mem _ hy)]
    rfl
theorem strs_shaped {l : List Str} (h : ∀ x ∈ l, Nice x) : SeqAt.shaped (.list (l.map .str)) = true := by
  unfold SeqAt.shaped
  rw [Bool.and_eq_true]
  refine ⟨(tameAll_ok _ (strs_tame h)).2.2, decide_eq_true ?_⟩
  have := strs_depth l
  show PyData.depthAll (l.map .str) + 1 ≤ 64
  omega
theorem glue_due {x y : Str} {toks : List Tk3} (okt : ∀ a ∈ toks, a.2.1 ≤ a.2.2 ∧ a.2.2 ≤ (x ++ y).length)
    (ab : cutA (x ++ y) 0 = some (toks.map (·.2)) ∨ (cutA (x ++ y) 0 = none ∧ tot toks < (x ++ y).length)) :
    decide (toks.map (fun a => sl (x ++ y) a.2) = [x, y]) = doE x y := by
  unfold doE
  rcases ab with h | ⟨h, ht⟩
  · rw [h]
    show _ = decide ((toks.map (·.2)).map (sl (x ++ y)) = [x, y])
    rw [List.map_map]
    rfl
  · rw [h]
    refine decide_eq_false fun q => ?_
    match toks, q, okt, ht with
    | [], q, _, _ => cases q
    | [a], q, _, _ => simp at q
    | _ :: _ :: _ :: _, q, _, _ => simp at q
    | [a, b], q, okt, ht =>
      have q : [sl (x ++ y) a.2, sl (x ++ y) b.2] = [x, y] := q
      injection q with q1 q
      injection q with q2 _
      obtain ⟨a1, a2⟩ := okt a (by simp)
      obtain ⟨b1, b2⟩ := okt b (by simp)
      have l1 := sl_len (t := x ++ y) a1 a2
      have l2 := sl_len (t := x ++ y) b1 b2
      have e1 : sl (x ++ y) (a.2.1, a.2.2) = sl (x ++ y) a.2 := rfl
      have e2 : sl (x ++ y) (b.2.1, b.2.2) = sl (x ++ y) b.2 := rfl
      rw [e1, q1] at l1
      rw [e2, q2] at l2
      have ll : (x ++ y).length = x.length + y.length := Str.length_append _ _
      have ht : (a.2.2 - a.2.1) + ((b.2.2 - b.2.1) + 0) < (x ++ y).length := ht
      omega
theorem trip_at {H : Hp} {v : V} {k w : Str} {i : Int} (t : Tr H v (.tuple [.str k, .str w, .int i])) : ∃ q, v = .ref q ∧ H q = some (.tup [.str k, .str w, .int i]) := by
  cases t with
  | tup h r =>
    cases r with
    | cons a r =>
      cases r with
      | cons b r =>
        cases r with
        | cons c r =>
          cases r
          cases a
          cases b
          cases c
          exact ⟨_, rfl, h⟩
def spGl : Sp := fun vs H Q _ => ∃ (x y : Str), vs = [.str x, .str y] ∧ x.length ≤ 100 ∧ y.length ≤ 100 ∧ Nice x ∧ Nice y ∧ ∀ H', Same H H' → Q (.bl (!doE x y)) H'
theorem c_p_glued (T : Txt K mg w) (c_p_cut : Cal P w K mg base 4 "cut" spCutP []) : Cal P w K mg base 5 "glued" spGl [] := by
  refine calOf T.d_p_glued sc_p_glued (fun vs H Q E h => ?_) (fun f cdv A outer s H vs Q E hr h => ?_)
  · obtain ⟨x, y, rfl, _⟩ := h
    rfl
  · obtain ⟨x, y, rfl, lx, ly, nx, ny, k⟩ := h
    have ll : (x ++ y).length = x.length + y.length := Str.length_append _ _
    have nt := nx.cat ny
    refine ⟨_,
      (pss_one (ps_ret (pe_cmpR (op_neD hr.units) (pe_lc (own := [("token", 2)]) (g := gName 2) (tt := tYes) rfl sc_p_glued.nd (pi_tup (pe_ix ix_tup (pe_c c_p_cut hr (by first | decide | omega) rfl (pa_cons (pe_op op_add_str (pv 0) (pv 1)) pa_nil)) pe_int (fun _ _ => rfl))) (blkOk_by (N := ["one", "other", "token"]) (sc := defScope s_p_glued) (by decide +kernel)) (fun _ _ _ _ _ => pg_name (i := 2) sc_p_glued.nd rfl (Or.inl rfl)) (fun _ _ _ _ _ => pts_nil) (fun _ _ _ _ _ => (pe_ix (show IxR _ (rIxT K) from ix_tup) (pv 2) pe_int (fun _ _ => rfl)))) (pe_lst (pa_cons (pv 0) (pa_cons (pv 1) pa_nil))) (nomark _))))
      , ?_⟩
    refine ⟨_, rfl, _, rfl, _, _, rfl, rfl, Nat.le_trans (show x.length + y.length ≤ 200 by omega) (by decide), x ++ y, rfl, by omega, fun p q fv vs toks H1 s1 hp hq tr okt lt ab => ?_⟩
    refine ⟨p, _, _, _, rfl, rfl, SqT.of hp, atI_nat (j := 0) rfl, q, rfl, ⟨_, SqT.of hq⟩, fun D hD => ?_⟩
    have lv : vs.length = toks.length := by
      have := tr.len
      rw [List.length_map] at this
      exact this
    refine lc_tup (K := K) (a := q) (xs := vs) (fun i H' => H' D = some (.lst (((toks.take i).map fun a => sl (x ++ y) a.2).map V.str)) ∧ Same H1 H') ⟨upd_same, same_put (Same.refl _) hD⟩ (fun i H' _ ⟨_, s2⟩ => SqT.of (s2 _ _ hq)) ?_ ?_
    · rintro i v H' hi ⟨hd, s2⟩
      obtain ⟨d, hdi, tv⟩ := tr.get hi
      rw [List.getElem?_map] at hdi
      obtain ⟨a, ha, rfl⟩ := Option.map_eq_some_iff.mp hdi
      obtain ⟨b, rfl, hb⟩ := trip_at tv
      have li := (List.getElem?_eq_some_iff.mp ha).1
      refine ⟨rfl, _, rfl, b, _, _, _, rfl, rfl, SqT.of (s2 _ _ hb), atI_nat (j := 1) rfl, _, hd, ?_, ?_, same_put s2 hD⟩
      · rw [List.length_map, List.length_map, List.length_take]
        exact Nat.lt_of_le_of_lt (Nat.min_le_left _ _) (Nat.lt_of_lt_of_le (show i < 1000 by omega) (by decide))
      · rw [upd_same, List.take_add_one, ha, List.map_append, List.map_append]
        rfl
    · rintro H2 ⟨hd, s2⟩
      rw [lv, List.take_length] at hd
      refine ⟨_, rfl, _, rfl, by show 2 ≤ sizeLine; decide, fun p2 hp2 => ?_⟩
      have nn : ∀ z ∈ toks.map (fun a => sl (x ++ y) a.2), Nice z := fun z hz => by
        obtain ⟨a, _, rfl⟩ := List.mem_map.mp hz
        exact nt.cut _ _
      have n2 : ∀ z ∈ [x, y], Nice z := fun z hz => by
        simp only [List.mem_cons, List.not_mem_nil, or_false] at hz
        rcases hz with rfl | rfl
        · exact nx
        · exact ny
      refine ⟨.list ((toks.map (fun a => sl (x ++ y) a.2)).map .str), .list ([x, y].map .str), .lst (SqL.of (upd_some hd hp2)) (TrAll.strs _).dp, .lst (SqL.of upd_same) (TrAll.strs [x, y]).dp, strs_shaped nn, strs_shaped n2, ?_⟩
      have k := k _ ((s1.trans s2).trans (same_new (o := .lst [.str x, .str y]) hp2))
      show Q (.bl (!PyData.eqvAll _ _)) _
      rw [eqv_strs, glue_due okt ab]
      exact k
def spLaw4 (K : PySem.W.Frag) (Tl : List (Addr × Str)) : Sp := fun vs H Q _ => ∃ (a : Addr) (ns : List Int), vs = [.ref a] ∧ SqL K H a (ns.map V.int) ∧ ns.length ≤ 63 ∧ Tabs Tl H ∧ ∀ H', Q (.bl true) H'
theorem fn_law4 (T : Txt K mg w) {f : Addr} {fd : FuncData} {tp : Addr} (F : Fun K "law" "law" s_p_law f fd)
    (c_l_bag : Cal P w K mg base 1 "_law_bag" (spBag K) []) (c_l_bare_word : Cal P w K mg base 5 "_law_bare_word" spWd []) (c_l_alike : Cal P w K mg base 1 "_law_alike" spAlikeB []) (c_p_glued : Cal P w K mg base 5 "glued" spGl []) (c_l_do_part : Cal P w K mg base 6 "_law_do_part" (spDo tp) []) :
    FnG P w K mg base 7 f fd ["_law_script"] (spLaw4 K (tbl tp)) := by
  refine fnG_of F sc_p_law (fun vs H Q E h => ?_) (fun cdv A outer s H vs Q E hr gd h => ?_)
  · obtain ⟨a, ns, rfl, _⟩ := h
    rfl
  · obtain ⟨a, ns, rfl, hq, hl, T0, k⟩ := h
    refine ⟨_,
      (pss_cons (ps_set (i := 1) sc_p_law.nd rfl (Or.inl rfl) (pe_c c_l_bag hr (by first | decide | omega) rfl (pa_cons (pv 0) pa_nil)))
        (pss_cons (ps_for PassesOwn.never rfl (pi_range1 (by rfl) T.n_range (pa_cons pe_int pa_nil)) (pg_name (i := 2) sc_p_law.nd rfl (Or.inl rfl))
        (pss_cons (ps_par (i := 3) (j := 4) (by rfl) sc_p_law.nd rfl rfl (by decide) rfl rfl (pa_cons (pe_c c_l_bare_word hr (by first | decide | omega) rfl (pa_cons (pv 1) pa_nil)) (pa_cons (pe_c c_l_bare_word hr (by first | decide | omega) rfl (pa_cons (pv 1) pa_nil)) pa_nil)) (by rfl))
        (pss_one (ps_if (pt_not (pt_val (pe_c c_l_alike hr (by first | decide | omega) rfl (pa_cons (pe_c c_p_glued hr (by first | decide | omega) rfl (pa_cons (pv 3) (pa_cons (pv 4) pa_nil))) (pa_cons (pe_not (pe_c c_l_do_part hr (by first | decide | omega) rfl (pa_cons (pv 3) (pa_cons (pv 4) pa_nil)))) pa_nil)))))
        (pss_one (ps_ret pe_bl))
        pss_nil))))
        (pss_one (ps_ret pe_bl))))
      , ?_⟩
    refine ⟨_, rfl, a, ns, rfl, hq, hl, fun g H0 s0 B0 => ?_⟩
    have T1 := Tabs.same T0 s0
    refine ⟨30, rfl, by decide, by decide, ?_⟩
    refine for_range (lo := 0) (n := 30) (fun i σ H' => ∃ (v2 v3 v4 : Option V), σ = [some (.ref a), some (.ref g.b), v2, v3, v4] ∧ Bag H' g 0 0 ∧ Tabs (tbl tp) H') ⟨none, none, none, rfl, B0, T1⟩ ?_ ?_
    · rintro i σ H1 hi ⟨v2, v3, v4, rfl, B1, T1⟩
      refine ⟨_, rfl, g, 0, 0, rfl, B1, fun x H2 l1 n1 D2 => ⟨_, rfl, g, 0, 0, rfl, D2.bag, fun y H3 l2 n2 D3 => ⟨_, _, rfl, ?_⟩⟩⟩
      have T3 := Tabs.drawn T1 B1 (D2.trans D3)
      refine ⟨_, rfl, _, rfl, x, y, rfl, l1, l2, n1, n2, fun H4 s4 => ?_⟩
      refine ⟨_, rfl, _, rfl, x, y, rfl, l1, l2, n1, n2, Tabs.same T3 s4, fun H5 e5 t5 => ?_⟩
      refine ⟨_, rfl, !doE x y, rfl, _, rfl, iteF ?_⟩
      exact ⟨_, _, _, rfl, (D3.bag.same s4).ext e5, t5⟩
    · rintro σ H1 ⟨v2, v3, v4, rfl, B1, T1⟩
      exact k _

def tl1 : List (Addr × Str) := tbl 176
theorem tabs0 {H : Hp} (h : ∀ T ∈ [(176 : Addr)], H T = some (.tbl #[])) : Tabs tl1 H := fun p hp => by
  unfold tl1 tbl at hp
  simp only [List.mem_cons, List.not_mem_nil, or_false] at hp
  subst hp
  exact LamX.TabS.nil (h 176 (by simp))
theorem law_all (T : Txt K mg w) {f : Addr} {fd : FuncData} {c2 : Addr} (F : Fun K "law" "law" s_p_law f fd) (D : DefK K mg "_law_word_end" s_l_word_end ["_law_text", "_law_at"] c2) (TB2 : TabB base mg c2 176) :
    FnG P w K mg base 7 f fd ["_law_script"] (spLaw4 K tl1) := by
  have take : Cal P w K mg base 1 "_law_take" spTake [] := c_l_take T
  have one : Cal P w K mg base 2 "_law_one" (spOne K) [] := c_l_one T take
  have kws : Cal P w K mg base 1 "_law_keywords" spKws [] := c_l_keywords T
  have name : Cal P w K mg base 3 "_law_name" spName [] := c_l_name T take one kws
  have atom : Cal P w K mg base 4 "_law_atom" spAtom [] := c_l_atom T take one name
  have dig := c_l_is_digit (P := P) (w := w) (base := base) T
  have lett := c_l_is_letter (P := P) (w := w) (base := base) T
  have we : Cal P w K mg base 4 "_law_word_end" (spWE 176) [] := c_l_word_end T ⟨D.ex⟩ TB2 lett dig (c_l_run T) (c_l_quote_end T)
  have run : Cal P w K mg base 1 "_run_end" spRunS [] := c_p_run_end T
  have le : Cal P w K mg base 1 "line_end" (spAt fun t i => .int (runE notNl t.cps.toList i)) [] := c_p_line_end T
  have wa : Cal P w K mg base 3 "word_at" spWA [] := c_p_word_at T le run (c_p_number_end T run) (c_p_quote_end T) (c_p_closed_end T) (c_p_sign_end T)
  exact fn_law4 T F (c_l_bag T) (c_l_bare_word T one kws name atom) (c_l_alike T) (c_p_glued T (c_p_cut T wa (c_p_place_of T) (c_p_behind_fault T le))) (c_l_do_part T (c_l_cut T we))
end

theorem all_mk {l : PySem.W.OpenLaw} {w : World} {K : PySem.W.Frag} {h : Heap} {mg : Str → Option Value} {fa : Addr} (X : K.In h) (G : h.Ns mainGlobals mg) (hfa : mg "law" = some (.ref fa))
    {f0 : Addr} {od0 an0 : Option Addr} {sl0 : Array (Option Value)} {oc0 kV0 dc0 pm0 cd0 ct0 : Value}
    {f1 : Addr} {od1 an1 : Option Addr} {sl1 : Array (Option Value)} {oc1 kV1 dc1 pm1 cd1 ct1 : Value}
    {f2 : Addr} {od2 an2 : Option Addr} {sl2 : Array (Option Value)} {oc2 kV2 dc2 pm2 cd2 ct2 : Value}
    {f3 : Addr} {od3 an3 : Option Addr} {sl3 : Array (Option Value)} {oc3 kV3 dc3 pm3 cd3 ct3 : Value}
    {f4 : Addr} {od4 an4 : Option Addr} {sl4 : Array (Option Value)} {oc4 kV4 dc4 pm4 cd4 ct4 : Value}
    {f5 : Addr} {od5 an5 : Option Addr} {sl5 : Array (Option Value)} {oc5 kV5 dc5 pm5 cd5 ct5 : Value}
    {f6 : Addr} {od6 an6 : Option Addr} {sl6 : Array (Option Value)} {oc6 kV6 dc6 pm6 cd6 ct6 : Value}
    {f7 : Addr} {od7 an7 : Option Addr} {sl7 : Array (Option Value)} {oc7 kV7 dc7 pm7 cd7 ct7 : Value}
    {f8 : Addr} {od8 an8 : Option Addr} {sl8 : Array (Option Value)} {oc8 kV8 dc8 pm8 cd8 ct8 : Value}
    {f9 : Addr} {od9 an9 : Option Addr} {sl9 : Array (Option Value)} {oc9 kV9 dc9 pm9 cd9 ct9 : Value}
    {f10 : Addr} {od10 an10 : Option Addr} {sl10 : Array (Option Value)} {oc10 kV10 dc10 pm10 cd10 ct10 : Value}
    {f11 : Addr} {od11 an11 : Option Addr} {sl11 : Array (Option Value)} {oc11 kV11 dc11 pm11 cd11 ct11 : Value}
    {f12 : Addr} {od12 an12 : Option Addr} {sl12 : Array (Option Value)} {oc12 kV12 dc12 pm12 cd12 ct12 : Value}
    {f13 : Addr} {od13 an13 : Option Addr} {sl13 : Array (Option Value)} {oc13 kV13 dc13 pm13 cd13 ct13 : Value}
    {f14 : Addr} {od14 an14 : Option Addr} {sl14 : Array (Option Value)} {oc14 kV14 dc14 pm14 cd14 ct14 : Value}
    {f15 : Addr} {od15 an15 : Option Addr} {sl15 : Array (Option Value)} {oc15 kV15 dc15 pm15 cd15 ct15 : Value}
    {f16 : Addr} {od16 an16 : Option Addr} {sl16 : Array (Option Value)} {oc16 kV16 dc16 pm16 cd16 ct16 : Value}
    {f17 : Addr} {od17 an17 : Option Addr} {sl17 : Array (Option Value)} {oc17 kV17 dc17 pm17 cd17 ct17 : Value}
    {f18 : Addr} {od18 an18 : Option Addr} {sl18 : Array (Option Value)} {oc18 kV18 dc18 pm18 cd18 ct18 : Value}
    {f19 : Addr} {od19 an19 : Option Addr} {sl19 : Array (Option Value)} {oc19 kV19 dc19 pm19 cd19 ct19 : Value}
    {f20 : Addr} {od20 an20 : Option Addr} {sl20 : Array (Option Value)} {oc20 kV20 dc20 pm20 cd20 ct20 : Value}
    {f21 : Addr} {od21 an21 : Option Addr} {sl21 : Array (Option Value)} {oc21 kV21 dc21 pm21 cd21 ct21 : Value}
    {f22 : Addr} {od22 an22 : Option Addr} {sl22 : Array (Option Value)} {oc22 kV22 dc22 pm22 cd22 ct22 : Value}
    {f23 : Addr} {od23 an23 : Option Addr} {sl23 : Array (Option Value)} {oc23 kV23 dc23 pm23 ct23 : Value} {cc23 : Addr}
    {f24 : Addr} {od24 an24 : Option Addr} {sl24 : Array (Option Value)} {oc24 kV24 dc24 pm24 cd24 ct24 : Value}
    {f25 : Addr} {od25 an25 : Option Addr} {sl25 : Array (Option Value)} {oc25 kV25 dc25 pm25 cd25 ct25 : Value}
    {f26 : Addr} {od26 an26 : Option Addr} {sl26 : Array (Option Value)} {oc26 kV26 dc26 pm26 cd26 ct26 : Value}
    {e_KEYWORDS : Addr} {td_KEYWORDS : Option Addr} {its_KEYWORDS : Array Value} {tn_KEYWORDS : Nat} {ts_KEYWORDS : Array (Option Value)}
    {e_ESCAPES : Addr} {td_ESCAPES : Option Addr} {its_ESCAPES : Array Value} {tn_ESCAPES : Nat} {ts_ESCAPES : Array (Option Value)}
    {e_SIGNS : Addr} {td_SIGNS : Option Addr} {its_SIGNS : Array Value} {tn_SIGNS : Nat} {ts_SIGNS : Array (Option Value)}
    {u_LETTERS : Tok}
    {u_DIGITS : Tok}
    (a0 : PySem.W.nsIn K mainGlobals "line_end" = some (some (.ref f0))) (l0 : K.lookup f0 = some ⟨oc0, od0, .func (PySem.W.fnOf "line_end" "line_end" (defArgs s_p_line_end) (defBody s_p_line_end) (defScope s_p_line_end) .none kV0 dc0 pm0 an0 cd0 ct0), sl0⟩) (c0 : PySem.W.codeIn K cd0 "line_end" = true) (k0 : PySem.W.keepIn K (.ref f0) = true)
    (a1 : PySem.W.nsIn K mainGlobals "_run_end" = some (some (.ref f1))) (l1 : K.lookup f1 = some ⟨oc1, od1, .func (PySem.W.fnOf "_run_end" "_run_end" (defArgs s_p_run_end) (defBody s_p_run_end) (defScope s_p_run_end) .none kV1 dc1 pm1 an1 cd1 ct1), sl1⟩) (c1 : PySem.W.codeIn K cd1 "_run_end" = true) (k1 : PySem.W.keepIn K (.ref f1) = true)
    (a2 : PySem.W.nsIn K mainGlobals "_number_end" = some (some (.ref f2))) (l2 : K.lookup f2 = some ⟨oc2, od2, .func (PySem.W.fnOf "_number_end" "_number_end" (defArgs s_p_number_end) (defBody s_p_number_end) (defScope s_p_number_end) .none kV2 dc2 pm2 an2 cd2 ct2), sl2⟩) (c2 : PySem.W.codeIn K cd2 "_number_end" = true) (k2 : PySem.W.keepIn K (.ref f2) = true)
    (a3 : PySem.W.nsIn K mainGlobals "_quote_end" = some (some (.ref f3))) (l3 : K.lookup f3 = some ⟨oc3, od3, .func (PySem.W.fnOf "_quote_end" "_quote_end" (defArgs s_p_quote_end) (defBody s_p_quote_end) (defScope s_p_quote_end) .none kV3 dc3 pm3 an3 cd3 ct3), sl3⟩) (c3 : PySem.W.codeIn K cd3 "_quote_end" = true) (k3 : PySem.W.keepIn K (.ref f3) = true)
    (a4 : PySem.W.nsIn K mainGlobals "_closed_end" = some (some (.ref f4))) (l4 : K.lookup f4 = some ⟨oc4, od4, .func (PySem.W.fnOf "_closed_end" "_closed_end" (defArgs s_p_closed_end) (defBody s_p_closed_end) (defScope s_p_closed_end) .none kV4 dc4 pm4 an4 cd4 ct4), sl4⟩) (c4 : PySem.W.codeIn K cd4 "_closed_end" = true) (k4 : PySem.W.keepIn K (.ref f4) = true)
    (a5 : PySem.W.nsIn K mainGlobals "_sign_end" = some (some (.ref f5))) (l5 : K.lookup f5 = some ⟨oc5, od5, .func (PySem.W.fnOf "_sign_end" "_sign_end" (defArgs s_p_sign_end) (defBody s_p_sign_end) (defScope s_p_sign_end) .none kV5 dc5 pm5 an5 cd5 ct5), sl5⟩) (c5 : PySem.W.codeIn K cd5 "_sign_end" = true) (k5 : PySem.W.keepIn K (.ref f5) = true)
    (a6 : PySem.W.nsIn K mainGlobals "word_at" = some (some (.ref f6))) (l6 : K.lookup f6 = some ⟨oc6, od6, .func (PySem.W.fnOf "word_at" "word_at" (defArgs s_p_word_at) (defBody s_p_word_at) (defScope s_p_word_at) .none kV6 dc6 pm6 an6 cd6 ct6), sl6⟩) (c6 : PySem.W.codeIn K cd6 "word_at" = true) (k6 : PySem.W.keepIn K (.ref f6) = true)
    (a7 : PySem.W.nsIn K mainGlobals "place_of" = some (some (.ref f7))) (l7 : K.lookup f7 = some ⟨oc7, od7, .func (PySem.W.fnOf "place_of" "place_of" (defArgs s_p_place_of) (defBody s_p_place_of) (defScope s_p_place_of) .none kV7 dc7 pm7 an7 cd7 ct7), sl7⟩) (c7 : PySem.W.codeIn K cd7 "place_of" = true) (k7 : PySem.W.keepIn K (.ref f7) = true)
    (a8 : PySem.W.nsIn K mainGlobals "_behind_fault" = some (some (.ref f8))) (l8 : K.lookup f8 = some ⟨oc8, od8, .func (PySem.W.fnOf "_behind_fault" "_behind_fault" (defArgs s_p_behind_fault) (defBody s_p_behind_fault) (defScope s_p_behind_fault) .none kV8 dc8 pm8 an8 cd8 ct8), sl8⟩) (c8 : PySem.W.codeIn K cd8 "_behind_fault" = true) (k8 : PySem.W.keepIn K (.ref f8) = true)
    (a9 : PySem.W.nsIn K mainGlobals "cut" = some (some (.ref f9))) (l9 : K.lookup f9 = some ⟨oc9, od9, .func (PySem.W.fnOf "cut" "cut" (defArgs s_p_cut) (defBody s_p_cut) (defScope s_p_cut) .none kV9 dc9 pm9 an9 cd9 ct9), sl9⟩) (c9 : PySem.W.codeIn K cd9 "cut" = true) (k9 : PySem.W.keepIn K (.ref f9) = true)
    (a10 : PySem.W.nsIn K mainGlobals "glued" = some (some (.ref f10))) (l10 : K.lookup f10 = some ⟨oc10, od10, .func (PySem.W.fnOf "glued" "glued" (defArgs s_p_glued) (defBody s_p_glued) (defScope s_p_glued) .none kV10 dc10 pm10 an10 cd10 ct10), sl10⟩) (c10 : PySem.W.codeIn K cd10 "glued" = true) (k10 : PySem.W.keepIn K (.ref f10) = true)
    (a11 : PySem.W.nsIn K mainGlobals "_law_bag" = some (some (.ref f11))) (l11 : K.lookup f11 = some ⟨oc11, od11, .func (PySem.W.fnOf "_law_bag" "_law_bag" (defArgs s_l_bag) (defBody s_l_bag) (defScope s_l_bag) .none kV11 dc11 pm11 an11 cd11 ct11), sl11⟩) (c11 : PySem.W.codeIn K cd11 "_law_bag" = true) (k11 : PySem.W.keepIn K (.ref f11) = true)
    (a12 : PySem.W.nsIn K mainGlobals "_law_take" = some (some (.ref f12))) (l12 : K.lookup f12 = some ⟨oc12, od12, .func (PySem.W.fnOf "_law_take" "_law_take" (defArgs s_l_take) (defBody s_l_take) (defScope s_l_take) .none kV12 dc12 pm12 an12 cd12 ct12), sl12⟩) (c12 : PySem.W.codeIn K cd12 "_law_take" = true) (k12 : PySem.W.keepIn K (.ref f12) = true)
    (a13 : PySem.W.nsIn K mainGlobals "_law_one" = some (some (.ref f13))) (l13 : K.lookup f13 = some ⟨oc13, od13, .func (PySem.W.fnOf "_law_one" "_law_one" (defArgs s_l_one) (defBody s_l_one) (defScope s_l_one) .none kV13 dc13 pm13 an13 cd13 ct13), sl13⟩) (c13 : PySem.W.codeIn K cd13 "_law_one" = true) (k13 : PySem.W.keepIn K (.ref f13) = true)
    (a14 : PySem.W.nsIn K mainGlobals "_law_keywords" = some (some (.ref f14))) (l14 : K.lookup f14 = some ⟨oc14, od14, .func (PySem.W.fnOf "_law_keywords" "_law_keywords" (defArgs s_l_keywords) (defBody s_l_keywords) (defScope s_l_keywords) .none kV14 dc14 pm14 an14 cd14 ct14), sl14⟩) (c14 : PySem.W.codeIn K cd14 "_law_keywords" = true) (k14 : PySem.W.keepIn K (.ref f14) = true)
    (a15 : PySem.W.nsIn K mainGlobals "_law_name" = some (some (.ref f15))) (l15 : K.lookup f15 = some ⟨oc15, od15, .func (PySem.W.fnOf "_law_name" "_law_name" (defArgs s_l_name) (defBody s_l_name) (defScope s_l_name) .none kV15 dc15 pm15 an15 cd15 ct15), sl15⟩) (c15 : PySem.W.codeIn K cd15 "_law_name" = true) (k15 : PySem.W.keepIn K (.ref f15) = true)
    (a16 : PySem.W.nsIn K mainGlobals "_law_atom" = some (some (.ref f16))) (l16 : K.lookup f16 = some ⟨oc16, od16, .func (PySem.W.fnOf "_law_atom" "_law_atom" (defArgs s_l_atom) (defBody s_l_atom) (defScope s_l_atom) .none kV16 dc16 pm16 an16 cd16 ct16), sl16⟩) (c16 : PySem.W.codeIn K cd16 "_law_atom" = true) (k16 : PySem.W.keepIn K (.ref f16) = true)
    (a17 : PySem.W.nsIn K mainGlobals "_law_bare_word" = some (some (.ref f17))) (l17 : K.lookup f17 = some ⟨oc17, od17, .func (PySem.W.fnOf "_law_bare_word" "_law_bare_word" (defArgs s_l_bare_word) (defBody s_l_bare_word) (defScope s_l_bare_word) .none kV17 dc17 pm17 an17 cd17 ct17), sl17⟩) (c17 : PySem.W.codeIn K cd17 "_law_bare_word" = true) (k17 : PySem.W.keepIn K (.ref f17) = true)
    (a18 : PySem.W.nsIn K mainGlobals "_law_alike" = some (some (.ref f18))) (l18 : K.lookup f18 = some ⟨oc18, od18, .func (PySem.W.fnOf "_law_alike" "_law_alike" (defArgs s_l_alike) (defBody s_l_alike) (defScope s_l_alike) .none kV18 dc18 pm18 an18 cd18 ct18), sl18⟩) (c18 : PySem.W.codeIn K cd18 "_law_alike" = true) (k18 : PySem.W.keepIn K (.ref f18) = true)
    (a19 : PySem.W.nsIn K mainGlobals "_law_is_letter" = some (some (.ref f19))) (l19 : K.lookup f19 = some ⟨oc19, od19, .func (PySem.W.fnOf "_law_is_letter" "_law_is_letter" (defArgs s_l_is_letter) (defBody s_l_is_letter) (defScope s_l_is_letter) .none kV19 dc19 pm19 an19 cd19 ct19), sl19⟩) (c19 : PySem.W.codeIn K cd19 "_law_is_letter" = true) (k19 : PySem.W.keepIn K (.ref f19) = true)
    (a20 : PySem.W.nsIn K mainGlobals "_law_run" = some (some (.ref f20))) (l20 : K.lookup f20 = some ⟨oc20, od20, .func (PySem.W.fnOf "_law_run" "_law_run" (defArgs s_l_run) (defBody s_l_run) (defScope s_l_run) .none kV20 dc20 pm20 an20 cd20 ct20), sl20⟩) (c20 : PySem.W.codeIn K cd20 "_law_run" = true) (k20 : PySem.W.keepIn K (.ref f20) = true)
    (a21 : PySem.W.nsIn K mainGlobals "_law_is_digit" = some (some (.ref f21))) (l21 : K.lookup f21 = some ⟨oc21, od21, .func (PySem.W.fnOf "_law_is_digit" "_law_is_digit" (defArgs s_l_is_digit) (defBody s_l_is_digit) (defScope s_l_is_digit) .none kV21 dc21 pm21 an21 cd21 ct21), sl21⟩) (c21 : PySem.W.codeIn K cd21 "_law_is_digit" = true) (k21 : PySem.W.keepIn K (.ref f21) = true)
    (a22 : PySem.W.nsIn K mainGlobals "_law_quote_end" = some (some (.ref f22))) (l22 : K.lookup f22 = some ⟨oc22, od22, .func (PySem.W.fnOf "_law_quote_end" "_law_quote_end" (defArgs s_l_quote_end) (defBody s_l_quote_end) (defScope s_l_quote_end) .none kV22 dc22 pm22 an22 cd22 ct22), sl22⟩) (c22 : PySem.W.codeIn K cd22 "_law_quote_end" = true) (k22 : PySem.W.keepIn K (.ref f22) = true)
    (a23 : PySem.W.nsIn K mainGlobals "_law_word_end" = some (some (.ref f23))) (l23 : K.lookup f23 = some ⟨oc23, od23, .func (PySem.W.fnOf "_law_word_end" "_law_word_end" (defArgs s_l_word_end) (defBody s_l_word_end) (defScope s_l_word_end) .none kV23 dc23 pm23 an23 (.ref cc23) ct23), sl23⟩) (c23 : PySem.W.codeIn K (.ref cc23) "_law_word_end" = true) (k23 : PySem.W.keepIn K (.ref f23) = true) (hh23 : PySem.W.codeHdIn K cc23 176 = true) (hn23 : K.lookup 176 = none)
    (a24 : PySem.W.nsIn K mainGlobals "_law_cut" = some (some (.ref f24))) (l24 : K.lookup f24 = some ⟨oc24, od24, .func (PySem.W.fnOf "_law_cut" "_law_cut" (defArgs s_l_cut) (defBody s_l_cut) (defScope s_l_cut) .none kV24 dc24 pm24 an24 cd24 ct24), sl24⟩) (c24 : PySem.W.codeIn K cd24 "_law_cut" = true) (k24 : PySem.W.keepIn K (.ref f24) = true)
    (a25 : PySem.W.nsIn K mainGlobals "_law_do_part" = some (some (.ref f25))) (l25 : K.lookup f25 = some ⟨oc25, od25, .func (PySem.W.fnOf "_law_do_part" "_law_do_part" (defArgs s_l_do_part) (defBody s_l_do_part) (defScope s_l_do_part) .none kV25 dc25 pm25 an25 cd25 ct25), sl25⟩) (c25 : PySem.W.codeIn K cd25 "_law_do_part" = true) (k25 : PySem.W.keepIn K (.ref f25) = true)
    (a26 : PySem.W.nsIn K mainGlobals "law" = some (some (.ref f26))) (l26 : K.lookup f26 = some ⟨oc26, od26, .func (PySem.W.fnOf "law" "law" (defArgs s_p_law) (defBody s_p_law) (defScope s_p_law) .none kV26 dc26 pm26 an26 cd26 ct26), sl26⟩) (c26 : PySem.W.codeIn K cd26 "law" = true) (k26 : PySem.W.keepIn K (.ref f26) = true)
    (z_abs : PySem.W.nsIn K mainGlobals "abs" = some none)
    (z_int : PySem.W.nsIn K mainGlobals "int" = some none)
    (z_len : PySem.W.nsIn K mainGlobals "len" = some none)
    (z_range : PySem.W.nsIn K mainGlobals "range" = some none)
    (z_tuple : PySem.W.nsIn K mainGlobals "tuple" = some none)
    (z_repr : PySem.W.nsIn K mainGlobals "repr" = some none)
    (ta_KEYWORDS : PySem.W.nsIn K mainGlobals "KEYWORDS" = some (some (.ref e_KEYWORDS))) (tl_KEYWORDS : K.lookup e_KEYWORDS = some ⟨.type "tuple", td_KEYWORDS, .seq its_KEYWORDS tn_KEYWORDS, ts_KEYWORDS⟩) (tv_KEYWORDS : Vals (tp_KEYWORDS.map V.str) its_KEYWORDS.toList) (tz_KEYWORDS : its_KEYWORDS.size ≤ sizeLine)
    (ta_ESCAPES : PySem.W.nsIn K mainGlobals "ESCAPES" = some (some (.ref e_ESCAPES))) (tl_ESCAPES : K.lookup e_ESCAPES = some ⟨.type "tuple", td_ESCAPES, .seq its_ESCAPES tn_ESCAPES, ts_ESCAPES⟩) (tv_ESCAPES : Vals (tp_ESCAPES.map V.str) its_ESCAPES.toList) (tz_ESCAPES : its_ESCAPES.size ≤ sizeLine)
    (ta_SIGNS : PySem.W.nsIn K mainGlobals "SIGNS" = some (some (.ref e_SIGNS))) (tl_SIGNS : K.lookup e_SIGNS = some ⟨.type "tuple", td_SIGNS, .seq its_SIGNS tn_SIGNS, ts_SIGNS⟩) (tv_SIGNS : Vals (tp_SIGNS.map V.str) its_SIGNS.toList) (tz_SIGNS : its_SIGNS.size ≤ sizeLine)
    (ga_LETTERS : PySem.W.nsIn K mainGlobals "LETTERS" = some (some (.str "ABCDEFGHIJKLMNOPQRSTUVWXYZ_abcdefghijklmnopqrstuvwxyz" u_LETTERS)))
    (ga_DIGITS : PySem.W.nsIn K mainGlobals "DIGITS" = some (some (.str "0123456789" u_DIGITS))) :
    ∃ (fd : FuncData) (L : List (Addr × Addr)), (∀ p ∈ L, PySem.W.codeHdIn K p.1 p.2 = true ∧ K.lookup p.2 = none) ∧ L.map (·.2) = [176] ∧ (∀ (s : Shared) (v : Value), BindsTo s fd ⟨[v], []⟩ [("_law_script", v)]) ∧ ∀ base : Heap, K.In base → base.Ns mainGlobals mg → (∀ p ∈ L, LamX.TabB base mg p.1 p.2) → FnG l.prog w K mg base 7 fa fd ["_law_script"] (spLaw4 K Lw.tl1) := by
  have e := hfa.symm.trans (PySem.W.mg_of X G a26)
  cases e
  have T : Txt K mg w := {
    d_p_line_end := defIn_mk X G a0 l0 c0 k0 fun _ _ _ _ _ _ us hl => match us, hl with | [_, _], _ => rfl
    d_p_run_end := defIn_mk X G a1 l1 c1 k1 fun _ _ _ _ _ _ us hl => match us, hl with | [_, _, _], _ => rfl
    d_p_number_end := defIn_mk X G a2 l2 c2 k2 fun _ _ _ _ _ _ us hl => match us, hl with | [_, _], _ => rfl
    d_p_quote_end := defIn_mk X G a3 l3 c3 k3 fun _ _ _ _ _ _ us hl => match us, hl with | [_, _], _ => rfl
    d_p_closed_end := defIn_mk X G a4 l4 c4 k4 fun _ _ _ _ _ _ us hl => match us, hl with | [_, _, _, _], _ => rfl
    d_p_sign_end := defIn_mk X G a5 l5 c5 k5 fun _ _ _ _ _ _ us hl => match us, hl with | [_, _], _ => rfl
    d_p_word_at := defIn_mk X G a6 l6 c6 k6 fun _ _ _ _ _ _ us hl => match us, hl with | [_, _], _ => rfl
    d_p_place_of := defIn_mk X G a7 l7 c7 k7 fun _ _ _ _ _ _ us hl => match us, hl with | [_, _], _ => rfl
    d_p_behind_fault := defIn_mk X G a8 l8 c8 k8 fun _ _ _ _ _ _ us hl => match us, hl with | [_, _, _], _ => rfl
    d_p_cut := defIn_mk X G a9 l9 c9 k9 fun _ _ _ _ _ _ us hl => match us, hl with | [_], _ => rfl
    d_p_glued := defIn_mk X G a10 l10 c10 k10 fun _ _ _ _ _ _ us hl => match us, hl with | [_, _], _ => rfl
    d_l_bag := defIn_mk X G a11 l11 c11 k11 fun _ _ _ _ _ _ us hl => match us, hl with | [_], _ => rfl
    d_l_take := defIn_mk X G a12 l12 c12 k12 fun _ _ _ _ _ _ us hl => match us, hl with | [_, _], _ => rfl
    d_l_one := defIn_mk X G a13 l13 c13 k13 fun _ _ _ _ _ _ us hl => match us, hl with | [_, _], _ => rfl
    d_l_keywords := defIn_mk X G a14 l14 c14 k14 fun _ _ _ _ _ _ us hl => match us, hl with | [], _ => rfl
    d_l_name := defIn_mk X G a15 l15 c15 k15 fun _ _ _ _ _ _ us hl => match us, hl with | [_], _ => rfl
    d_l_atom := defIn_mk X G a16 l16 c16 k16 fun _ _ _ _ _ _ us hl => match us, hl with | [_], _ => rfl
    d_l_bare_word := defIn_mk X G a17 l17 c17 k17 fun _ _ _ _ _ _ us hl => match us, hl with | [_], _ => rfl
    d_l_alike := defIn_mk X G a18 l18 c18 k18 fun _ _ _ _ _ _ us hl => match us, hl with | [_, _], _ => rfl
    d_l_is_letter := defIn_mk X G a19 l19 c19 k19 fun _ _ _ _ _ _ us hl => match us, hl with | [_], _ => rfl
    d_l_run := defIn_mk X G a20 l20 c20 k20 fun _ _ _ _ _ _ us hl => match us, hl with | [_, _, _], _ => rfl
    d_l_is_digit := defIn_mk X G a21 l21 c21 k21 fun _ _ _ _ _ _ us hl => match us, hl with | [_], _ => rfl
    d_l_quote_end := defIn_mk X G a22 l22 c22 k22 fun _ _ _ _ _ _ us hl => match us, hl with | [_, _], _ => rfl
    d_l_word_end := defIn_mk X G a23 l23 c23 k23 fun _ _ _ _ _ _ us hl => match us, hl with | [_, _], _ => rfl
    d_l_cut := defIn_mk X G a24 l24 c24 k24 fun _ _ _ _ _ _ us hl => match us, hl with | [_], _ => rfl
    d_l_do_part := defIn_mk X G a25 l25 c25 k25 fun _ _ _ _ _ _ us hl => match us, hl with | [_, _], _ => rfl
    d_p_law := defIn_mk X G a26 l26 c26 k26 fun _ _ _ _ _ _ us hl => match us, hl with | [_], _ => rfl
    n_abs := PySem.W.mg_none_of X G z_abs
    n_int := PySem.W.mg_none_of X G z_int
    n_len := PySem.W.mg_none_of X G z_len
    n_range := PySem.W.mg_none_of X G z_range
    n_tuple := PySem.W.mg_none_of X G z_tuple
    n_repr := PySem.W.mg_none_of X G z_repr
    g_LETTERS := ⟨_, PySem.W.mg_of X G ga_LETTERS, ⟨_, rfl⟩⟩
    g_DIGITS := ⟨_, PySem.W.mg_of X G ga_DIGITS, ⟨_, rfl⟩⟩
    t_KEYWORDS := ⟨_, PySem.W.mg_of X G ta_KEYWORDS, fun H => .inr ⟨_, _, _, tl_KEYWORDS, rfl, rfl, tz_KEYWORDS, tv_KEYWORDS⟩⟩
    t_ESCAPES := ⟨_, PySem.W.mg_of X G ta_ESCAPES, fun H => .inr ⟨_, _, _, tl_ESCAPES, rfl, rfl, tz_ESCAPES, tv_ESCAPES⟩⟩
    t_SIGNS := ⟨_, PySem.W.mg_of X G ta_SIGNS, fun H => .inr ⟨_, _, _, tl_SIGNS, rfl, rfl, tz_SIGNS, tv_SIGNS⟩⟩
  }
  have F := fun_mk (st := s_p_law) l26 c26 k26
  have fk23 := fun_mk (st := s_l_word_end) l23 c23 k23
  have dk23 : DefK K mg "_law_word_end" s_l_word_end ["_law_text", "_law_at"] cc23 := ⟨f23, _, _, _, _, _, _, _, _, l23, c23, k23, PySem.W.mg_of X G a23, fk23.binds fun _ _ _ _ _ _ us hl => match us, hl with | [_, _], _ => rfl⟩
  refine ⟨_, [(cc23, 176)], fun p hp => ?_, rfl, fun s v => .of_eq rfl, fun base _ _ TB => law_all T F  dk23 (TB (cc23, 176) (by simp))⟩
  simp only [List.mem_cons, List.not_mem_nil, or_false] at hp
  rcases hp with rfl
  · exact ⟨hh23, hn23⟩
end Lw
open PySem PySem.W PyProof.Rows
set_option maxRecDepth 100000 in
set_option maxHeartbeats 0 in
theorem PySem.Challenge.cw_leastlaid_k04_words_that_would_be_glued_holds : PySem.Challenge.rw_leastlaid_k04_words_that_would_be_glued.Holds := by
  w_on; o_law; k_head; (case hw => w_witness2)
  k_fill
  refine Vf.walk_ofY (l := PySem.Challenge.rw_leastlaid_k04_words_that_would_be_glued) (n := 63) (k := 7) (x := "_law_script") (sp := fun w => Lw.spLaw4 _ Lw.tl1) (Ts := [176]) rfl (by decide) rfl ⟨rfl, by decide, by decide⟩ (fun w h Y => ⟨PySem.W.km_in_of Y, PySem.W.km_tabs_of Y⟩) ?F (fun _ _ a ns hl hT hS => ⟨a, ns, rfl, hS, hl, Lw.tabs0 hT, fun _ => rfl⟩)
  case F =>
    intro w mg fa h KX G hmg
    refine' Lw.all_mk KX G hmg ?a0 ?l0 ?c0 ?k0 ?a1 ?l1 ?c1 ?k1 ?a2 ?l2 ?c2 ?k2 ?a3 ?l3 ?c3 ?k3 ?a4 ?l4 ?c4 ?k4 ?a5 ?l5 ?c5 ?k5 ?a6 ?l6 ?c6 ?k6 ?a7 ?l7 ?c7 ?k7 ?a8 ?l8 ?c8 ?k8 ?a9 ?l9 ?c9 ?k9 ?a10 ?l10 ?c10 ?k10 ?a11 ?l11 ?c11 ?k11 ?a12 ?l12 ?c12 ?k12 ?a13 ?l13 ?c13 ?k13 ?a14 ?l14 ?c14 ?k14 ?a15 ?l15 ?c15 ?k15 ?a16 ?l16 ?c16 ?k16 ?a17 ?l17 ?c17 ?k17 ?a18 ?l18 ?c18 ?k18 ?a19 ?l19 ?c19 ?k19 ?a20 ?l20 ?c20 ?k20 ?a21 ?l21 ?c21 ?k21 ?a22 ?l22 ?c22 ?k22 ?a23 ?l23 ?c23 ?k23 ?hh23 ?hn23 ?a24 ?l24 ?c24 ?k24 ?a25 ?l25 ?c25 ?k25 ?a26 ?l26 ?c26 ?k26 ?z_abs ?z_int ?z_len ?z_range ?z_tuple ?z_repr ?ta_KEYWORDS ?tl_KEYWORDS ?tv_KEYWORDS ?tz_KEYWORDS ?ta_ESCAPES ?tl_ESCAPES ?tv_ESCAPES ?tz_ESCAPES ?ta_SIGNS ?tl_SIGNS ?tv_SIGNS ?tz_SIGNS ?ga_LETTERS ?ga_DIGITS
    (case a0 => k_is)
    (case l0 => k_is)
    (case c0 => k_is)
    (case k0 => k_is)
    (case a1 => k_is)
    (case l1 => k_is)
    (case c1 => k_is)
    (case k1 => k_is)
    (case a2 => k_is)
    (case l2 => k_is)
    (case c2 => k_is)
    (case k2 => k_is)
    (case a3 => k_is)
    (case l3 => k_is)
    (case c3 => k_is)
    (case k3 => k_is)
    (case a4 => k_is)
    (case l4 => k_is)
    (case c4 => k_is)
    (case k4 => k_is)
    (case a5 => k_is)
    (case l5 => k_is)
    (case c5 => k_is)
    (case k5 => k_is)
    (case a6 => k_is)
    (case l6 => k_is)
    (case c6 => k_is)
    (case k6 => k_is)
    (case a7 => k_is)
    (case l7 => k_is)
    (case c7 => k_is)
    (case k7 => k_is)
    (case a8 => k_is)
    (case l8 => k_is)
    (case c8 => k_is)
    (case k8 => k_is)
    (case a9 => k_is)
    (case l9 => k_is)
    (case c9 => k_is)
    (case k9 => k_is)
    (case a10 => k_is)
    (case l10 => k_is)
    (case c10 => k_is)
    (case k10 => k_is)
    (case a11 => k_is)
    (case l11 => k_is)
    (case c11 => k_is)
    (case k11 => k_is)
    (case a12 => k_is)
    (case l12 => k_is)
    (case c12 => k_is)
    (case k12 => k_is)
    (case a13 => k_is)
    (case l13 => k_is)
    (case c13 => k_is)
    (case k13 => k_is)
    (case a14 => k_is)
    (case l14 => k_is)
    (case c14 => k_is)
    (case k14 => k_is)
    (case a15 => k_is)
    (case l15 => k_is)
    (case c15 => k_is)
    (case k15 => k_is)
    (case a16 => k_is)
    (case l16 => k_is)
    (case c16 => k_is)
    (case k16 => k_is)
    (case a17 => k_is)
    (case l17 => k_is)
    (case c17 => k_is)
    (case k17 => k_is)
    (case a18 => k_is)
    (case l18 => k_is)
    (case c18 => k_is)
    (case k18 => k_is)
    (case a19 => k_is)
    (case l19 => k_is)
    (case c19 => k_is)
    (case k19 => k_is)
    (case a20 => k_is)
    (case l20 => k_is)
    (case c20 => k_is)
    (case k20 => k_is)
    (case a21 => k_is)
    (case l21 => k_is)
    (case c21 => k_is)
    (case k21 => k_is)
    (case a22 => k_is)
    (case l22 => k_is)
    (case c22 => k_is)
    (case k22 => k_is)
    (case a23 => k_is)
    (case l23 => k_is)
    (case c23 => k_is)
    (case k23 => k_is)
    (case hh23 => first | kernel_rfl | rfl | with_unfolding_all rfl | (trace_state; fail "no"))
    (case hn23 => first | kernel_rfl | rfl | with_unfolding_all rfl | (trace_state; fail "no"))
    (case a24 => k_is)
    (case l24 => k_is)
    (case c24 => k_is)
    (case k24 => k_is)
    (case a25 => k_is)
    (case l25 => k_is)
    (case c25 => k_is)
    (case k25 => k_is)
    (case a26 => k_is)
    (case l26 => k_is)
    (case c26 => k_is)
    (case k26 => k_is)
    (case z_abs => k_is)
    (case z_int => k_is)
    (case z_len => k_is)
    (case z_range => k_is)
    (case z_tuple => k_is)
    (case z_repr => k_is)
    (case ta_KEYWORDS => k_is)
    (case tl_KEYWORDS => k_is)
    (case tv_KEYWORDS => exact .cons ⟨_, rfl⟩ (.cons ⟨_, rfl⟩ (.cons ⟨_, rfl⟩ (.cons ⟨_, rfl⟩ (.cons ⟨_, rfl⟩ (.cons ⟨_, rfl⟩ (.cons ⟨_, rfl⟩ (.cons ⟨_, rfl⟩ (.cons ⟨_, rfl⟩ (.cons ⟨_, rfl⟩ (.cons ⟨_, rfl⟩ (.cons ⟨_, rfl⟩ (.cons ⟨_, rfl⟩ (.cons ⟨_, rfl⟩ (.cons ⟨_, rfl⟩ (.cons ⟨_, rfl⟩ (.nil)))))))))))))))))
    (case tz_KEYWORDS => decide)
    (case ta_ESCAPES => k_is)
    (case tl_ESCAPES => k_is)
    (case tv_ESCAPES => exact .cons ⟨_, rfl⟩ (.cons ⟨_, rfl⟩ (.cons ⟨_, rfl⟩ (.cons ⟨_, rfl⟩ (.nil)))))
    (case tz_ESCAPES => decide)
    (case ta_SIGNS => k_is)
    (case tl_SIGNS => k_is)
    (case tv_SIGNS => exact .cons ⟨_, rfl⟩ (.cons ⟨_, rfl⟩ (.cons ⟨_, rfl⟩ (.cons ⟨_, rfl⟩ (.cons ⟨_, rfl⟩ (.cons ⟨_, rfl⟩ (.cons ⟨_, rfl⟩ (.cons ⟨_, rfl⟩ (.cons ⟨_, rfl⟩ (.cons ⟨_, rfl⟩ (.cons ⟨_, rfl⟩ (.cons ⟨_, rfl⟩ (.cons ⟨_, rfl⟩ (.cons ⟨_, rfl⟩ (.cons ⟨_, rfl⟩ (.cons ⟨_, rfl⟩ (.cons ⟨_, rfl⟩ (.cons ⟨_, rfl⟩ (.cons ⟨_, rfl⟩ (.cons ⟨_, rfl⟩ (.cons ⟨_, rfl⟩ (.cons ⟨_, rfl⟩ (.cons ⟨_, rfl⟩ (.nil))))))))))))))))))))))))
    (case tz_SIGNS => decide)
    (case ga_LETTERS => k_is)
    (case ga_DIGITS => k_is)
