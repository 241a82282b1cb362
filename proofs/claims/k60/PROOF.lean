import PyProof.Rows.All
import Wide.All
import OpenK.AllK
import Wide.FinOn
import HandS.ForMost
import HandS.Evl
import HandS.Codes
import HandS.RaiseMore
import PyProof.ReprRoads
import HandS.RaiseOp
import HandS.Walk
import PyProof.StrLawsRepr
import PyProof.FitsInt
import HandS.ExcInit
import HandS.ExcField
import HandS.ExcOwn
import HandS.WordsExc
import HandS.SortInts
import HandS.Lambda
import HandS.EndTab
import HandS.EndOwn
import HandS.Style
import PySem.Challenge.RW_leastlaid_k60_texts_changed
set_option Elab.async false
set_option linter.all false
set_option maxRecDepth 100000
set_option maxHeartbeats 4000000
/-! Own words, for every law: defs whose promise is kept where no repr is under way (FnG), repr of data, a list's item changed by +=. -/
namespace Vf
open PySem PySem.Spec PyProof.Rows L2

/-- a def that keeps its promise wherever no repr is under way -/
structure FnG (P : Program) (w : World) (K : PySem.W.Frag)
    (mg : Str → Option Value) (base : Heap) (k : Nat) (f : Addr)
    (fd : FuncData) (ps : List Str) (sp : Sp) : Prop where
  many : ∀ vs H Q E, sp vs H Q E → vs.length = ps.length
  go : ∀ (A : Around) (outer : List Env) (s : Shared) (H : Hp)
    (args : Args) (us : List Value) (vs : List V) (Q : VK) (E : XK),
    Room k A → A.guards = some [] → Env0 P w K mg base A outer s H →
    BindsTo s fd args (ps.zip us) → Vals vs us → sp vs H Q E →
    codeAny (model P w) A (.call (.ref f) args)
      (CR CX0 outer P w H s Q E) s

section
variable {P : Program} {w : World} {K : PySem.W.Frag}
  {mg : Str → Option Value} {base : Heap}

theorem FnG.of_fn {k : Nat} {f : Addr} {fd : FuncData} {ps : List Str} {sp : Sp}
    (F : FnOk P w K mg base CX0 k f fd ps sp) : FnG P w K mg base k f fd ps sp :=
  ⟨F.len, fun A o s H a us vs Q E hr _ e b r q =>
    F.run A o s H a us vs Q E hr e b r q⟩

/-- by its body, as Fun.ok does it -/
theorem fnG_of {x qual : Str} {st : Stmt} {f : Addr} {fd : FuncData}
    {N ps : List Str} {k : Nat} {sp : Sp}
    (F : Fun K x qual st f fd) (S : FnScope N ps (defScope st))
    (many : ∀ vs H Q E, sp vs H Q E → vs.length = ps.length)
    (body : ∀ (cdv : Value) (A : Around) (outer : List Env)
      (s : Shared) (H : Hp) (vs : List V) (Q : VK) (E : XK),
      Room k (A.deeper (envOfC qual (defScope st)
        s.heap.objs.size f cdv)) →
      A.guards = some [] → sp vs H Q E →
      ∃ t, PSs (cxOf CX0 P w K mg base N qual (defScope st)
          f cdv A outer s H E).nox (defBody st) t ∧
        t { nx := fun _ H' => Q .non H', rt := Q }
          (start N vs) H) :
    FnG P w K mg base (k + 1) f fd ps sp := by
  obtain ⟨_, _, _, _, _, _, cdv, _, _, rfl, lk, hcd⟩ := F.ex
  refine ⟨many, fun A outer s H args us vs Q E hr hg e0 hb r hsp => ?_⟩
  have hlen := many _ _ _ _ hsp
  have KX : K.In s.heap := e0.mod.kin.keeps
    (fun b o e => (e0.bs b o e).1)
  have lim := e0.mod.nolimit.keeps
    (fun b o e => (e0.bs b o e).1)
  have kinds : ∀ y ∈ ps.zip us,
      (defScope st).names.lookup y.1 = some .local ∨
      ((defScope st).names.lookup y.1 = some .cell ∧
        ((cellsFrom (s.heap.objs.size + 1)
          (defScope st).names []).lookup y.1).isSome = true) := by
    rintro ⟨n, v⟩ hy
    cases S.par n (List.of_mem_zip hy).1 with
    | inl q => exact .inl q
    | inr q => exact .inr ⟨q, PySem.W.cellsFrom_some _ _ _ (.inl q)⟩
  refine codeAny_call_function hr.depth (KX _ _ lk) rfl
    S.co S.gen rfl (PySem.W.codeRec_of KX hcd) (hb _ _ _ _ ?_)
  refine wpAny_newFunctionEnv_cells S.kind kinds
    (fun env he s1 x => ?_)
  subst he
  refine ⟨lim.keeps x.toInCall.keep, codeAny_func ?_⟩
  obtain ⟨t, ht, hq⟩ := body cdv A outer s H vs Q E
    (hr.deeper _) hg hsp
  have I := inv_start (CX := CX0) (E := E) S hr.hd e0 hlen r x
  refine wpAny_mono (ht.nox.run [] s1 (start N vs) H _ I hq)
    (fun fl s' hs => ?_) (fun _ _ hs => hs)
  cases fl with
  | brk => exact (hs.choose_spec.choose_spec.2 : False).elim
  | cont => exact (hs.choose_spec.choose_spec.2 : False).elim
  | next =>
    obtain ⟨_, H', J, q⟩ := hs
    exact ⟨V.non, H', J.os, J.bare, J.base, J.hok, rfl, q⟩
  | ret u =>
    obtain ⟨v, _, H', J, rv, q⟩ := hs
    exact ⟨v, H', J.os, J.bare, J.base, J.hok, rv, q⟩
end

/-- a call of such a def -/
theorem pe_callG {X : Cx} {k : Nat} {f : Addr} {fd : FuncData}
    {ps : List Str} {sp : Sp} {x : Str} {p pos : Pos}
    {e : Expr} {es : List Expr} {t : TA}
    (F : FnG X.prog X.w X.K X.mg X.base k f fd ps sp)
    (hr : Room k X.A) (gd : X.A.guards = some [])
    (hg : Gl X x) (hm : X.mg x = some (.ref f))
    (hk : PySem.W.keepIn X.K (.ref f) = true)
    (hb : Binds X.K fd ps []) (ha : PA X (e :: es) t)
    (hdb : (x == ("__debug__" : Str)) = false := by decide)
    (he : starEach (e :: es) X.env =
      (false, eval e X.env) :: starEach es X.env := by rfl)
    (hpl : (backTo pos (starEach es X.env)).any (·.1) = false := by rfl) :
    PE X (.Call (.Name x p) (e :: es) [] pos) (tCall sp [] E0 t) := by
  refine ⟨fun pins s σ H Q I h => wpAny_Call_Name_kw (ld_glob I hg hm ?_ hdb)⟩
  refine PySem.W.callWith_K (h₀ := X.base) I.ok.mod.kin hk
    (thn (ha.run pos pins s σ H _ I h) ?_) he hpl
  rintro us s1 ⟨vs, H1, I1, r, q⟩
  refine ⟨I1.kIn, ?_⟩
  have q' : sp vs H1 Q E0 := by
    have := q
    rw [List.append_nil] at this
    exact this
  have hl : us.length = ps.length := by
    rw [← r.length]
    exact F.many _ _ _ _ q'
  have hb' := hb s1 us I1.kIn (by rw [List.append_nil]; exact hl)
  rw [List.append_nil] at hb'
  refine wpAny_call (codeAny_mono (F.go X.A X.stack s1 H1 ⟨us, []⟩ us vs
    Q E0 hr gd I1.env0 hb' r q') ?_)
  intro res s' hq
  cases res with
  | error e => exact (hq : False).elim
  | ok fl =>
    cases fl with
    | ret u => exact I1.after hq
    | next => exact (hq : False).elim
    | brk => exact (hq : False).elim
    | cont => exact (hq : False).elim

/-- repr of a list or a tuple of data -/
theorem call_reprD {X : Cx} (gd : X.A.guards = some []) (hu : X.A.units + 64 < cLine) :
    CallR X (.builtin "repr") (fun xs H Q => ∃ a d, xs = [.ref a] ∧
      Dp X.K H (.ref a) d ∧ d.showable = true ∧ d.hasDict = false ∧
      d.depth ≤ 60 ∧ d.shown.length ≤ sizeLine ∧ Q (.str d.shown) H) := by
  intro pins s σ H xs us Q I r h
  obtain ⟨a, d, rfl, hd, sh, nd, dp, sz, q⟩ := h
  cases r with
  | cons rv rn =>
    cases rn
    obtain rfl := rv
    obtain ⟨as, rd⟩ := Dp.reads I d _ _ hd rfl
    refine repr_of_reads' rd sh (PyData.noDict_hsm nd) gd (by omega)
      (fun _ _ e => e) (fun h' u tk hk => ?_) sz
    exact ⟨.str d.shown, H, I.kept hk, ⟨u, rfl⟩, q⟩

end Vf

set_option Elab.async false
set_option linter.all false
set_option maxRecDepth 100000
set_option maxHeartbeats 4000000
/-! The end of a law whose def is an FnG. -/
namespace Vf
open PySem PySem.Spec PyProof.Rows L2

section
variable {P : Program} {w : World} {K : PySem.W.Frag}
  {mg mb : Str → Option Value} {k : Nat} {fa a : Addr} {fd : FuncData}
  {x : Str} {sp : Sp} {s₁ : Shared} {vs : List Value} {ns : List Int}

/-- what must be true behind the call -/
abbrev LawEnd (s₁ : Shared) : Result → Shared → Prop := fun r s' =>
  r = .ok (.ret (.bool true)) ∧ OldK s₁.heap s'.heap ∧
    s'.os = s₁.os ∧ AllBare s'.gens

theorem law_goes (KX : K.In s₁.heap)
    (hns : s₁.heap.Ns mainGlobals mg) (hb : s₁.heap.Ns builtinsNs mb)
    (hbb : ∀ y : Str, y ≠ "__name__" → mb y = bootBuiltins y)
    (hlim : s₁.heap.NoLimit) (hgen : s₁.gens = #[])
    (ha : s₁.heap.get? a =
      some { cls := .type "list", data := .seq vs.toArray })
    (hr : Room k callerA)
    (F : ∀ base : Heap, K.In base → base.Ns mainGlobals mg →
      FnG P w K mg base k fa fd [x] sp)
    (bind : ∀ (s : Shared) (u : Value),
      BindsTo s fd ⟨[u], []⟩ [(x, u)])
    (H : Hp) (hO : Only H) (ok : HOk P w H s₁.heap)
    (alone : ∀ b, H b ≠ none → b = a)
    (notK : H a ≠ none → K.lookup a = none)
    (hs : sp [.ref a] H (fun v _ => v = .bl true) fun _ _ _ => False) :
    codeAny (model P w) callerA (.call (.ref fa) ⟨[.ref a], []⟩)
      (LawEnd s₁) s₁ := by
  have free : ∀ {b : Addr} {o : Obj} {es : Array DictEntry} {ep : Nat},
      s₁.heap.get? b = some o → o.data = .dict es ep → H b = none := by
    intro b o es ep e d
    cases q : H b with
    | none => rfl
    | some u =>
      have z : b = a := alone b (by rw [q]; exact Option.some_ne_none u)
      rw [z, ha] at e
      cases e
      cases d
  have ns' : ∀ {b : Addr} {m : Str → Option Value},
      s₁.heap.Ns b m → (hidT s₁.heap H).Ns b m := by
    rintro b m ⟨o, es, ep, e, d, r⟩
    exact ⟨o, es, ep, hidT_get e (free e d), d, r⟩
  have kin : K.In (hidT s₁.heap H) := by
    intro b o e
    refine hidT_get (KX b o e) ?_
    cases q : H b with
    | none => rfl
    | some u =>
      have z : b = a := alone b (by rw [q]; exact Option.some_ne_none u)
      have z2 := notK (by rw [← z, q]; exact Option.some_ne_none u)
      rw [z, z2] at e
      cases e
  have lim' : (hidT s₁.heap H).NoLimit := by
    obtain ⟨mc, h1, h2⟩ := hlim
    exact ⟨mc, ns' h1, h2⟩
  have M : Mod K mg (hidT s₁.heap H) :=
    ⟨kin, ns' hns, ⟨mb, ns' hb, hbb⟩, lim'⟩
  have none_in : ∀ b : Addr, b ∉ ([] : List Addr) := fun b => by simp
  have env : Env0 P w K mg (hidT s₁.heap H) callerA [] s₁ H :=
    ⟨rfl, M, fun b o e => of_hidT e, Nat.le_of_eq (hidT_size _ _),
      trivial, fun b z => absurd z (none_in b), ok, .of_eq hgen⟩
  refine codeAny_mono ((F _ kin (ns' hns)).go callerA [] s₁ H
    ⟨[.ref a], []⟩ [.ref a] [.ref a] _ _ hr rfl env
    (bind s₁ (.ref a)) (.cons rfl .nil) hs) ?_
  intro r s' h
  cases r with
  | error e => exact (h : False).elim
  | ok fl =>
    cases fl with
    | next => exact (h : False).elim
    | brk => exact (h : False).elim
    | cont => exact (h : False).elim
    | ret u =>
      obtain ⟨v, H', os, bare, un, ok', rv, q⟩ := h
      obtain rfl : v = .bl true := q
      obtain rfl : u = Value.bool true := rv
      refine ⟨rfl, OldK.of_keep (fun b o e => ?_), os, bare⟩
      cases q : H b with
      | none => exact un.keep b o e q (none_in b) (none_in b)
      | some u =>
        rcases hO b with z | ⟨ob, xs, z⟩
        · rw [q] at z
          cases z
        · obtain ⟨e1, _⟩ := ok b _ z
          obtain ⟨e2, _⟩ := ok' b _ (un.frzs b ob _ z)
          rw [e] at e1
          cases e1
          exact e2

theorem law_goes2 (KX : K.In s₁.heap)
    (hns : s₁.heap.Ns mainGlobals mg) (hb : s₁.heap.Ns builtinsNs mb)
    (hbb : ∀ y : Str, y ≠ "__name__" → mb y = bootBuiltins y)
    (hlim : s₁.heap.NoLimit) (hgen : s₁.gens = #[])
    (ha : s₁.heap.get? a =
      some { cls := .type "list", data := .seq vs.toArray })
    (hi : IntsAre vs ns) (hl : ns.length ≤ sizeLine)
    (hr : Room k callerA)
    (F : ∀ base : Heap, K.In base → base.Ns mainGlobals mg →
      FnG P w K mg base k fa fd [x] sp)
    (bind : ∀ (s : Shared) (u : Value),
      BindsTo s fd ⟨[u], []⟩ [(x, u)])
    (hs : ∀ H : Hp, Only H → SqL K H a (ns.map V.int) →
      sp [.ref a] H (fun v _ => v = .bl true) fun _ _ _ => False) :
    codeAny (model P w) callerA (.call (.ref fa) ⟨[.ref a], []⟩)
      (LawEnd s₁) s₁ := by
  have rv := vals_ints hi
  cases hk : K.lookup a with
  | some o =>
    have e := KX a o hk
    rw [ha] at e
    cases e
    refine law_goes KX hns hb hbb hlim hgen ha hr F bind
      (fun _ => none) (fun _ => .inl rfl) (fun b u z => by cases z)
      (fun b z => absurd rfl z) (fun z => absurd rfl z) (hs _ (fun _ => .inl rfl) ?_)
    refine .inr ⟨_, vs.toArray, _, hk, rfl, rfl, rfl, ?_, by simpa using rv⟩
    rw [List.size_toArray, hi.length]
    exact hl
  | none =>
    have only : Only (fun b => if b = a then some (.frz { cls := .type "list", data := .seq vs.toArray } (.lst (ns.map V.int))) else none) := by
      intro b
      by_cases q : b = a
      · exact .inr ⟨_, _, if_pos q⟩
      · exact .inl (if_neg q)
    refine law_goes KX hns hb hbb hlim hgen ha hr F bind _ only
      (fun b u z => ?_) (fun b z => ?_) (fun _ => hk)
      (hs _ only (.inl (.inr ⟨_, if_pos rfl⟩)))
    · by_cases q : b = a
      · have z' := (if_pos q).symm.trans z
        cases z'
        subst q
        exact ⟨ha, by rw [List.length_map]; exact hl, vs, _, rv, ha⟩
      · have z' := (if_neg q).symm.trans z
        cases z'
    · by_cases q : b = a
      · exact q
      · exact absurd (if_neg q) z
end

/-- the goal that the head leaves -/
theorem walk_ofG {l : PySem.W.OpenLaw} {n k : Nat} {q : Program}
    {loose : List Str} {XP : (Str → Option Value) → Heap → Prop}
    {YP : World → Heap → Prop} {d : DefRec}
    {K : Params → PySem.W.Frag} {sp : World → Sp} {x : Str}
    (hn : l.most = some n) (hn2 : n ≤ sizeLine)
    (hdf : d.params.defaults = []) (hr : Room k callerA)
    (hY : ∀ (w : World) (h : Heap), YP w h → (K w.params).In h)
    (F : ∀ (w : World) (mg : Str → Option Value) (fa : Addr) (h : Heap),
      (K w.params).In h → h.Ns mainGlobals mg →
      mg d.name = some (.ref fa) →
      ∃ fd : FuncData,
        (∀ (s : Shared) (u : Value), BindsTo s fd ⟨[u], []⟩ [(x, u)]) ∧
        ∀ base : Heap, (K w.params).In base → base.Ns mainGlobals mg →
          FnG l.prog w (K w.params) mg base k fa fd [x] (sp w))
    (hsp : ∀ (w : World) (H : Hp) (a : Addr) (ns : List Int),
      ns.length ≤ n → Only H → SqL (K w.params) H a (ns.map V.int) →
      sp w [.ref a] H (fun v _ => v = .bl true) fun _ _ _ => False) :
    PySem.W.WalkO q loose XP YP l.row.toRowW d []
      (fun f vs => PySem.call f vs) := by
  refine Att.attach_call hn hdf ?_
  intro w s₀ s₁ mg mb fa o pm cd doc a vs ns G Y ho hd hcd hmg hobj hints hlen hg
  have KX := hY w _ Y
  obtain ⟨fd, hb, hF⟩ := F w mg fa _ KX G.T.g hmg
  exact law_goes2 KX G.T.g G.T.b G.T.builtins G.T.nolimit hg hobj
    hints (Nat.le_trans hlen hn2) hr hF hb
    (fun H hO hS => hsp w H a ns hlen hO hS)
end Vf

set_option Elab.async false
set_option linter.all false
set_option maxRecDepth 100000
set_option maxHeartbeats 4000000
/-! Own words: defs of the module as they are called; a list's item by +=; the bag of a law's draws. -/
namespace Vf
open PySem PySem.Spec PyProof.Rows L2
open C8 (Cal pe_c pe_gc CalAt)

/-- a def of the text, as the top has laid it -/
structure DefIn (K : PySem.W.Frag) (mg : Str → Option Value) (x : Str) (st : Stmt) (ps : List Str) : Prop where
  ex : ∃ f fd, Fun K x x st f fd ∧ mg x = some (.ref f) ∧ Binds K fd ps []

section
variable {P : Program} {w : World} {K : PySem.W.Frag} {mg : Str → Option Value} {base : Heap}

theorem defIn_mk {x : Str} {st : Stmt} {ps : List Str} {h : Heap} {f : Addr} {oc : Value} {od an : Option Addr} {osl : Array (Option Value)} {kV doc pm cdv ct : Value}
    (X : K.In h) (G : h.Ns mainGlobals mg) (a : PySem.W.nsIn K mainGlobals x = some (some (.ref f)))
    (l : K.lookup f = some ⟨oc, od, .func (PySem.W.fnOf x x (defArgs st) (defBody st) (defScope st) .none kV doc pm an cdv ct), osl⟩)
    (c : PySem.W.codeIn K cdv x = true) (k : PySem.W.keepIn K (.ref f) = true)
    (b : ∀ (kV doc pm : Value) (an : Option Addr) (cdv ct : Value) (us : List Value), us.length = ps.length →
      bindArgs (PySem.W.fnOf x x (defArgs st) (defBody st) (defScope st) .none kV doc pm an cdv ct) ⟨us, []⟩ = pure (ps.zip us)) : DefIn K mg x st ps := by
  have F := fun_mk (st := st) l c k
  exact ⟨f, _, F, PySem.W.mg_of X G a, F.binds b⟩
theorem calOf {x : Str} {st : Stmt} {N ps : List Str} {k : Nat} {sp : Sp}
    (D : DefIn K mg x st ps) (S : FnScope N ps (defScope st))
    (many : ∀ vs H Q E, sp vs H Q E → vs.length = ps.length)
    (body : ∀ (f : Addr) (cdv : Value) (A : Around) (outer : List Env) (s : Shared) (H : Hp) (vs : List V) (Q : VK) (E : XK),
      Room k (A.deeper (envOfC x (defScope st) s.heap.objs.size f cdv)) → sp vs H Q E →
      ∃ t, PSs (cxOf CX0 P w K mg base N x (defScope st) f cdv A outer s H E).nox (defBody st) t ∧ t { nx := fun _ H' => Q .non H', rt := Q } (start N vs) H) :
    Cal P w K mg base (k + 1) x sp [] := by
  obtain ⟨f, fd, F, hm, hb⟩ := D.ex
  exact ⟨f, fd, ps, [], F.ok S many (fun cdv A o s H vs Q E hr h => body f cdv A o s H vs Q E hr h), hm, F.kp, hb, .nil⟩

/-- such a def, where no repr is under way -/
structure CalG (P : Program) (w : World) (K : PySem.W.Frag) (mg : Str → Option Value) (base : Heap) (k : Nat) (x : Str) (sp : Sp) : Prop where
  ex : ∃ (f : Addr) (fd : FuncData) (ps : List Str), FnG P w K mg base k f fd ps sp ∧ mg x = some (.ref f) ∧ PySem.W.keepIn K (.ref f) = true ∧ Binds K fd ps []
theorem calGOf {x : Str} {st : Stmt} {N ps : List Str} {k : Nat} {sp : Sp}
    (D : DefIn K mg x st ps) (S : FnScope N ps (defScope st))
    (many : ∀ vs H Q E, sp vs H Q E → vs.length = ps.length)
    (body : ∀ (f : Addr) (cdv : Value) (A : Around) (outer : List Env) (s : Shared) (H : Hp) (vs : List V) (Q : VK) (E : XK),
      Room k (A.deeper (envOfC x (defScope st) s.heap.objs.size f cdv)) → A.guards = some [] → sp vs H Q E →
      ∃ t, PSs (cxOf CX0 P w K mg base N x (defScope st) f cdv A outer s H E).nox (defBody st) t ∧ t { nx := fun _ H' => Q .non H', rt := Q } (start N vs) H) :
    CalG P w K mg base (k + 1) x sp := by
  obtain ⟨f, fd, F, hm, hb⟩ := D.ex
  exact ⟨f, fd, ps, fnG_of F S many (fun cdv A o s H vs Q E hr h => body f cdv A o s H vs Q E hr h), hm, F.kp, hb⟩
end

section
variable {X : Cx} {k j : Nat} {x : Str} {sp : Sp} {p pos : Pos} {e o i : Expr} {es : List Expr} {t : TA}
theorem pe_c0 (c : Cal X.prog X.w X.K X.mg X.base k x sp []) (hr : Room j X.A) (hk : k ≤ j) (hg : Gl X x)
    (hdb : (x == ("__debug__" : Str)) = false := by decide) : PE X (.Call (.Name x p) [] [] pos) (tCall sp [] E0 tNil) := by
  obtain ⟨f, fd, ps, ds, F, hm, kp, b, d⟩ := c.ex
  exact pe_call0 F (hr.mono hk) hg hm kp b d pass0 hdb
theorem pe_cG (c : CalG X.prog X.w X.K X.mg X.base k x sp) (hr : Room k X.A) (gd : X.A.guards = some []) (hg : Gl X x) (ha : PA X (e :: es) t)
    (hdb : (x == ("__debug__" : Str)) = false := by decide) (he : starEach (e :: es) X.env = (false, eval e X.env) :: starEach es X.env := by rfl) (hpl : (backTo pos (starEach es X.env)).any (·.1) = false := by rfl) :
    PE X (.Call (.Name x p) (e :: es) [] pos) (tCall sp [] E0 t) := by
  obtain ⟨f, fd, ps, F, hm, kp, b⟩ := c.ex
  exact pe_callG F hr gd hg hm kp b ha hdb he hpl

/-- xs[i] read on the way of xs[i] += .. -/
theorem get_list : PGet X (rIxL X.K) := by
  intro pins s σ H x y v u Q I rx ry h
  obtain ⟨p, xs, i, z, rfl, rfl, hq, he, q⟩ := h
  cases rx
  obtain ⟨t, rfl⟩ := ry
  obtain ⟨its, r, pl, hz⟩ := I.list hq
  obtain ⟨j, h1, h2, h3, h4, h5⟩ := atI_get he
  obtain ⟨w, ew, rw'⟩ := r.get h2
  have hl := r.length
  have hn := line63
  have fin : EP X pins σ Q w s := ⟨z, H, I, rw', q⟩
  by_cases h0 : 0 ≤ i
  · have hj : i.toNat = j := by
      rw [seqIndex_of h0 h5] at h1
      exact Option.some.inj h1
    exact wpAny_getItem_list pl.isList h0 (by omega) (by rw [hj]; simpa using ew) fin
  · have hj : (i + (its.toArray.size : Int)).toNat = j := by
      rw [seqIndex_neg (by omega) h4] at h1
      rw [List.size_toArray, ← hl]
      exact Option.some.inj h1
    exact wpAny_getItem_list_neg pl.isList (by omega) (by rw [List.size_toArray]; omega) (by omega) (by rw [hj]; simpa using ew) fin
end

/-! ### the bag -/
/-- all but b stands as it stood -/
def Fr (b : Addr) (H H' : Hp) : Prop := ∀ a o, a ≠ b → H a = some o → H' a = some o
theorem Fr.refl (b : Addr) (H : Hp) : Fr b H H := fun _ _ _ h => h
theorem Fr.trans {b : Addr} {H H1 H2 : Hp} (x : Fr b H H1) (y : Fr b H1 H2) : Fr b H H2 := fun a o n h => y a o n (x a o n h)
theorem Fr.new {b p : Addr} {H H' : Hp} {o : HO} (x : Fr b H H') (n : H' p = none) : Fr b H (upd H' p o) := fun a u na h => by
  have := x a u na h
  rw [upd_ne (ne_of_none this n)]
  exact this
theorem Fr.at {b : Addr} {H H' : Hp} {o : HO} (x : Fr b H H') : Fr b H (upd H' b o) := fun a u na h => by
  rw [upd_ne na]
  exact x a u na h
theorem Fr.put {b p : Addr} {H H' : Hp} {o : HO} (x : Fr b H H') (n : H p = none) : Fr b H (upd H' p o) := fun a u na h => by
  rw [upd_ne (ne_of_none h n)]
  exact x a u na h
/-- tuples stay -/
def Tk (H H' : Hp) : Prop := ∀ a xs, H a = some (.tup xs) → H' a = some (.tup xs)
theorem Tk.refl (H : Hp) : Tk H H := fun _ _ h => h
theorem Tk.trans {H H1 H2 : Hp} (x : Tk H H1) (y : Tk H1 H2) : Tk H H2 := fun a o h => y a o (x a o h)
theorem Tk.of {H H' : Hp} (x : Same H H') : Tk H H' := fun a o h => x a _ h
theorem Tk.new {p : Addr} {H H' : Hp} {o : HO} (x : Tk H H') (n : H' p = none) : Tk H (upd H' p o) := fun a u h => by
  have := x a u h
  rw [upd_ne (ne_of_none this n)]
  exact this
theorem Tk.put {p : Addr} {H H' : Hp} {o : HO} (x : Tk H H') (n : ∀ xs, H p ≠ some (.tup xs)) : Tk H (upd H' p o) := fun a u h => by
  by_cases q : a = p
  · rw [q] at h
    exact absurd h (n u)
  · rw [upd_ne q]
    exact x a u h

/-- a bag stands at b, its numbers at L -/
structure Bg where
  b : Addr
  L : Addr
/-- the six things in a bag: c and e the last two -/
structure Bag (H : Hp) (g : Bg) (c e : Int) : Prop where
  ex : ∃ (z m i : Int) (ns : List Int),
    H g.b = some (.lst [.int z, .int m, .int i, .ref g.L, .int c, .int e]) ∧ H g.L = some (.lst (ns.map V.int)) ∧
    0 ≤ z ∧ 0 ≤ m ∧ m < 2147483647 ∧ 0 ≤ i ∧ (∀ n ∈ ns, (0 : Int) ≤ n) ∧ ns.length ≤ 63
  ne : g.L ≠ g.b
theorem Bag.ob {H : Hp} {g : Bg} {c e : Int} (B : Bag H g c e) : ∃ o, H g.b = some (.lst o) := by
  obtain ⟨z, m, i, ns, h, _⟩ := B.ex
  exact ⟨_, h⟩
theorem Bag.obL {H : Hp} {g : Bg} {c e : Int} (B : Bag H g c e) : ∃ o, H g.L = some (.lst o) := by
  obtain ⟨z, m, i, ns, h, h2, _⟩ := B.ex
  exact ⟨_, h2⟩
theorem Bag.ne_new {H : Hp} {g : Bg} {p : Addr} {c e : Int} (B : Bag H g c e) (n : H p = none) : p ≠ g.b := fun z => by
  obtain ⟨o, h⟩ := B.ob
  rw [← z, n] at h
  cases h
theorem Bag.ne_newL {H : Hp} {g : Bg} {p : Addr} {c e : Int} (B : Bag H g c e) (n : H p = none) : p ≠ g.L := fun z => by
  obtain ⟨o, h⟩ := B.obL
  rw [← z, n] at h
  cases h
theorem Bag.put {H : Hp} {g : Bg} {p : Addr} {c e : Int} {o : HO} (B : Bag H g c e) (n : p ≠ g.b) (n2 : p ≠ g.L) : Bag (upd H p o) g c e := by
  obtain ⟨z, m, i, ns, h, h2, r⟩ := B.ex
  exact ⟨⟨z, m, i, ns, by rw [upd_ne n.symm]; exact h, by rw [upd_ne n2.symm]; exact h2, r⟩, B.ne⟩
theorem Bag.new {H : Hp} {g : Bg} {p : Addr} {c e : Int} {o : HO} (B : Bag H g c e) (n : H p = none) : Bag (upd H p o) g c e := B.put (B.ne_new n) (B.ne_newL n)
theorem Bag.same {H H' : Hp} {g : Bg} {c e : Int} (B : Bag H g c e) (n : Same H H') : Bag H' g c e := by
  obtain ⟨z, m, i, ns, h, h2, r⟩ := B.ex
  exact ⟨⟨z, m, i, ns, n _ _ h, n _ _ h2, r⟩, B.ne⟩
theorem Bag.tk {H H' : Hp} {g : Bg} {c e : Int} (B : Bag H g c e) (f : Fr g.b H H') : Tk H H' := fun a xs h => f a _ (fun z => by
  obtain ⟨o, h2⟩ := B.ob
  rw [← z, h] at h2
  cases h2) h
/-- behind a draw: the bag stands, and all else -/
structure Drawn (g : Bg) (H H' : Hp) (c e : Int) : Prop where
  bag : Bag H' g c e
  fr : Fr g.b H H'
  tk : Tk H H'
section
variable {g : Bg} {a p : Addr} {H H1 H2 H' : Hp} {c e c' e' : Int} {o : HO}
theorem Drawn.trans (x : Drawn g H H1 c e) (y : Drawn g H1 H2 c' e') : Drawn g H H2 c' e' := ⟨y.bag, x.fr.trans y.fr, x.tk.trans y.tk⟩
theorem Drawn.new (x : Drawn g H H' c e) (n : H' p = none) : Drawn g H (upd H' p o) c e := ⟨x.bag.new n, x.fr.new n, x.tk.new n⟩
theorem Drawn.of (B : Bag H g c e) : Drawn g H H c e := ⟨B, .refl _ _, .refl _⟩
theorem Drawn.mk' (B : Bag H g c' e') (B' : Bag H' g c e) (f : Fr g.b H H') : Drawn g H H' c e := ⟨B', f, B.tk f⟩
theorem Drawn.same (B : Bag H g c e) (n : Same H H') : Drawn g H H' c e := ⟨B.same n, fun a o _ h => n a o h, .of n⟩
/-- a store into what H did not know -/
theorem Drawn.put (x : Drawn g H H' c e) (B : Bag H g c' e') (n : H p = none) : Drawn g H (upd H' p o) c e :=
  ⟨x.bag.put (B.ne_new n) (B.ne_newL n), x.fr.put n, x.tk.put fun xs h => by rw [n] at h; cases h⟩
theorem Drawn.keep (x : Drawn g H H' c e) (n : a ≠ g.b) (h : H a = some o) : H' a = some o := x.fr a o n h
theorem upd_some {u : HO} (h : H a = some o) (n : H p = none) : upd H p u a = some o := by
  rw [upd_ne (ne_of_none h n)]
  exact h
theorem Drawn.seqL {K : PySem.W.Frag} {xs : List V} (x : Drawn g H H' c e) (n : a ≠ g.b) (h : SqL K H a xs) : SqL K H' a xs := by
  rcases h with (h | ⟨o, h⟩) | h
  · exact .inl (.inl (x.fr _ _ n h))
  · exact .inl (.inr ⟨o, x.fr _ _ n h⟩)
  · exact .inr h
theorem Drawn.seqT {K : PySem.W.Frag} {xs : List V} (x : Drawn g H H' c e) (n : a ≠ g.b) (h : SqT K H a xs) : SqT K H' a xs := by
  rcases h with (h | ⟨o, h⟩) | h
  · exact .inl (.inl (x.fr _ _ n h))
  · exact .inl (.inr ⟨o, x.fr _ _ n h⟩)
  · exact .inr h
end
/-- an item below the length -/
theorem at_of {α : Type} {xs : List α} {r : Int} (h0 : 0 ≤ r) (h1 : r < (xs.length : Int)) : ∃ v, v ∈ xs ∧ atI xs r = some v := by
  obtain ⟨j, rfl⟩ := Int.eq_ofNat_of_zero_le h0
  have hj : j < xs.length := by omega
  exact ⟨xs[j], List.getElem_mem hj, atI_nat (j := j) (List.getElem?_eq_getElem hj)⟩

/-! ### what defs that draw promise -/
/-- a draw below n -/
def spTake : Sp := fun vs H Q _ => ∃ (g : Bg) (n c e : Int), vs = [.ref g.b, .int n] ∧ Bag H g c e ∧ 0 < n ∧ n < 1073741824 ∧
  ∀ (r : Int) (H' : Hp), 0 ≤ r → r < n → Drawn g H H' c e → Q (.int r) H'
/-- a list, a tuple, or a text is handed in, one of its items comes back -/
def spOne (K : PySem.W.Frag) : Sp := fun vs H Q _ => ∃ (g : Bg) (x : V) (c e : Int), vs = [.ref g.b, x] ∧ Bag H g c e ∧
  ((∃ p xs, x = .ref p ∧ (SqL K H p xs ∨ SqT K H p xs) ∧ p ≠ g.b ∧ 0 < xs.length ∧ xs.length < 1000 ∧ ∀ (v : V) (H' : Hp), v ∈ xs → Drawn g H H' c e → Q v H') ∨
   (∃ z : Str, x = .str z ∧ 0 < z.length ∧ z.length < 1000 ∧ ∀ (h : Nat) (H' : Hp), h ∈ z.cps.toList → Drawn g H H' c e → Q (.str ⟨#[h]⟩) H'))

/-! ### data in tuples -/
mutual
/-- what stands there, and lies in tuples alone -/
inductive Tr (H : Hp) : V → PyData → Prop
  | non : Tr H .non .none
  | bl (b : Bool) : Tr H (.bl b) (.bool b)
  | int (i : Int) : Tr H (.int i) (.int i)
  | str (x : Str) : Tr H (.str x) (.str x)
  | tup {a : Addr} {xs : List V} {ds : List PyData} : H a = some (.tup xs) → TrAll H xs ds → Tr H (.ref a) (.tuple ds)
inductive TrAll (H : Hp) : List V → List PyData → Prop
  | nil : TrAll H [] []
  | cons {v : V} {vs : List V} {d : PyData} {ds : List PyData} : Tr H v d → TrAll H vs ds → TrAll H (v :: vs) (d :: ds)
end
mutual
theorem Tr.keep {H H' : Hp} (k : Tk H H') : ∀ {v : V} {d : PyData}, Tr H v d → Tr H' v d
  | _, _, .non => .non
  | _, _, .bl b => .bl b
  | _, _, .int i => .int i
  | _, _, .str x => .str x
  | _, _, .tup h r => .tup (k _ _ h) (TrAll.keep k r)
theorem TrAll.keep {H H' : Hp} (k : Tk H H') : ∀ {v : List V} {d : List PyData}, TrAll H v d → TrAll H' v d
  | _, _, .nil => .nil
  | _, _, .cons h r => .cons (Tr.keep k h) (TrAll.keep k r)
end
mutual
theorem Tr.dp {K : PySem.W.Frag} {H : Hp} : ∀ {v : V} {d : PyData}, Tr H v d → Dp K H v d
  | _, _, .non => .non
  | _, _, .bl b => .bl b
  | _, _, .int i => .int i
  | _, _, .str x => .str x
  | _, _, .tup h r => .tup (SqT.of h) (TrAll.dp r)
theorem TrAll.dp {K : PySem.W.Frag} {H : Hp} : ∀ {v : List V} {d : List PyData}, TrAll H v d → DpAll K H v d
  | _, _, .nil => .nil
  | _, _, .cons h r => .cons (Tr.dp h) (TrAll.dp r)
end
theorem TrAll.len {H : Hp} : ∀ {v : List V} {d : List PyData}, TrAll H v d → v.length = d.length
  | _, _, .nil => rfl
  | _, _, .cons _ r => congrArg (· + 1) (TrAll.len r)
theorem TrAll.app {H : Hp} : ∀ {v u : List V} {d f : List PyData}, TrAll H v d → TrAll H u f → TrAll H (v ++ u) (d ++ f)
  | _, _, _, _, .nil, q => q
  | _, _, _, _, .cons h r, q => .cons h (TrAll.app r q)
theorem TrAll.one {H : Hp} {v : V} {d : PyData} (h : Tr H v d) : TrAll H [v] [d] := .cons h .nil
theorem TrAll.strs {H : Hp} : ∀ l : List Str, TrAll H (l.map V.str) (l.map PyData.str)
  | [] => .nil
  | x :: r => .cons (.str x) (TrAll.strs r)
theorem TrAll.get {H : Hp} : ∀ {v : List V} {d : List PyData} {i : Nat} {x : V}, TrAll H v d → v[i]? = some x → ∃ y, d[i]? = some y ∧ Tr H x y
  | _, _, _, _, .nil, h => by simp at h
  | _, _, 0, x, .cons h r, q => ⟨_, rfl, by
    have e := Option.some.inj q
    rw [← e]
    exact h⟩
  | _, _, i + 1, x, .cons h r, q => by
    rw [List.getElem?_cons_succ] at q ⊢
    exact TrAll.get r q
end Vf

set_option Elab.async false
set_option linter.all false
set_option maxRecDepth 100000
set_option maxHeartbeats 4000000
/-! Own words: dicts that the top has written, asked by ints and texts; a list extended by a tuple. -/
namespace Vf
open PySem PySem.Spec PyProof.Rows L2

/-- the entries of a written dict, by keys and values -/
def KdL (w : World) : List (Key × V) → List DictEntry → Prop
  | [], [] => True
  | (k, v) :: r, e :: q => keyIs k e.key = true ∧ e.hash = keyH w k ∧ RelV v e.val ∧ KdL w r q
  | _, _ => False
theorem KdL.keys {P : Program} {w : World} : ∀ {kvs : List (Key × V)} {l : List DictEntry}, KdL w kvs l → ∀ e ∈ l, ∃ k, (mixKind P w).is k e.key = true ∧ e.hash = (mixKind P w).hash k
  | [], [], _, e, he => by cases he
  | (k, v) :: r, e :: q, h, e', he => by
    rcases List.mem_cons.mp he with rfl | he
    · exact ⟨k, h.1, h.2.1⟩
    · exact KdL.keys h.2.2.2 e' he
  | [], _ :: _, h, _, _ => h.elim
  | _ :: _, [], h, _, _ => h.elim
theorem KdL.val {w : World} : ∀ {kvs : List (Key × V)} {l : List DictEntry}, KdL w kvs l → ∀ k, RelO (valV kvs k) ((l.find? fun e => keyIs k e.key).map (·.val))
  | [], [], _, k => True.intro
  | (k', v) :: r, e :: q, h, k => by
    have ih := KdL.val h.2.2.2 k
    unfold valV at ih ⊢
    rw [List.find?_cons, List.find?_cons]
    by_cases hk : k' = k
    · subst hk
      rw [h.1, decide_eq_true rfl]
      exact h.2.2.1
    · have h1 : keyIs k e.key = false := by
        cases hb : keyIs k e.key with
        | false => rfl
        | true =>
          have a1 := h.1
          rcases keyIs_shape a1 with ⟨i, t, e1, e2⟩ | ⟨x, t, e1, e2⟩
          · rcases keyIs_shape hb with ⟨j, u, e3, e4⟩ | ⟨y, u, e3, e4⟩
            · rw [e2] at e4
              cases e4
              exact absurd (e1.trans e3.symm) hk
            · rw [e2] at e4
              cases e4
          · rcases keyIs_shape hb with ⟨j, u, e3, e4⟩ | ⟨y, u, e3, e4⟩
            · rw [e2] at e4
              cases e4
            · rw [e2] at e4
              cases e4
              exact absurd (e1.trans e3.symm) hk
      rw [h1, decide_eq_false hk]
      exact ih
  | [], _ :: _, h, _ => h.elim
  | _ :: _, [], h, _ => h.elim
/-- a dict of the module stands at d -/
def KD (K : PySem.W.Frag) (w : World) (d : Addr) (kvs : List (Key × V)) : Prop :=
  ∃ es n, K.lookup d = some ⟨.type "dict", none, .dict es n, #[]⟩ ∧ (d == sysModules) = false ∧ KdL w kvs es.toList
theorem KD.map {P : Program} {w : World} {K : PySem.W.Frag} {d : Addr} {kvs : List (Key × V)} {h : Heap} (D : KD K w d kvs) (X : K.In h) :
    ∃ f, h.MapOf (mixKind P w) d f ∧ ∀ k, RelO (valV kvs k) (f k) := by
  obtain ⟨es, n, hl, _, hk⟩ := D
  refine ⟨_, ⟨_, es, n, X _ _ hl, ⟨rfl, rfl, rfl⟩, rfl, fun e he => hk.keys e (Array.mem_toList_iff.mpr he), fun _ => rfl⟩, fun k => ?_⟩
  have q := hk.val k
  obtain ⟨l⟩ := es
  unfold findBy
  rw [List.find?_toArray]
  exact q
/-- d[k], there -/
def rKGet (K : PySem.W.Frag) (w : World) : R2 := fun x y H Q => ∃ d kvs k v, x = .ref d ∧ y = kV k ∧ KD K w d kvs ∧ valV kvs k = some v ∧ Q v H
/-- d.get(k, z) -/
def tKGet2 (K : PySem.W.Frag) (w : World) (td ty tx : TE) : TE := fun σ H Q => td σ H fun x H1 => ty σ H1 fun y H2 => tx σ H2 fun z H3 =>
  ∃ d kvs k, x = .ref d ∧ y = kV k ∧ KD K w d kvs ∧ Q ((valV kvs k).getD z) H3
section
variable {X : Cx} {o e f : Expr} {apos cpos : Pos} {td ty tx : TE}
theorem ix_kd : IxR X (rKGet X.K X.w) := by
  intro value slice pins s σ H x y v u Q I rx ry h hs
  obtain ⟨d, kvs, k, z, rfl, rfl, D, hv, q⟩ := h
  cases rx
  obtain ⟨g, hm, hg⟩ := D.map (P := X.prog) I.kIn
  have q2 := hg k
  rw [hv] at q2
  obtain ⟨z', e1, r1⟩ := q2.some_of
  exact tail_any hm.typeIs PySem.F.slot_dict_getitem.lookup (wpAny_getItem_of (kV_is ry) hm e1 ⟨z, H, I.tok _, r1, q⟩) hs
theorem pe_kget2 (ho : PE X o td) (he : PE X e ty) (hf : PE X f tx) (hD : ∀ σ H Q, td σ H Q → td σ H (fun x H1 => (∃ d kvs, x = .ref d ∧ KD X.K X.w d kvs) ∧ Q x H1)) (m : M2 X o "get" apos e f cpos) :
    PE X (.Call (.Attribute o "get" apos) [e, f] [] cpos) (tKGet2 X.K X.w td ty tx) := by
  refine ⟨fun pins s σ H Q I h => ?_⟩
  have h' := hD _ _ _ h
  refine wpAny_Call_method m.base m.few m.line PySem.F.plainAttrs_dict PySem.F.slot_dict_get PySem.F.type_dict_get (thn (ho.run pins s σ H _ I h') ?_)
  rintro u s1 ⟨x, H1, I1, rx, ⟨d, kvs0, rfl, D⟩, q1⟩
  cases rx
  obtain ⟨g, hm, hg⟩ := D.map (P := X.prog) I1.kIn
  obtain ⟨es, n, hl, low, _⟩ := D
  refine ⟨hm.typeIs, fun b z => ?_, ?_⟩
  · cases z
    exact ⟨_, I1.kIn _ _ hl, rfl⟩
  rw [m.trees]
  refine Calls.callWith_builtin rfl (Calls.evalArgs_plain (Calls.spliced_cons (thn (he.run pins s1 σ H1 _ I1 q1) ?_)))
  rintro iv s2 ⟨y, H2, I2, ry, q2⟩
  refine Calls.spliced_cons (thn (hf.run pins s2 σ H2 _ I2 q2) ?_)
  rintro fv s3 ⟨z, H3, I3, rz, d', kvs, k, ed, ey, D3, q3⟩
  cases ed
  subst ey
  refine Calls.spliced_nil ?_
  obtain ⟨g3, hm3, hg3⟩ := D3.map (P := X.prog) I3.kIn
  refine call_meetsIn PySem.F.slot_dict_get hm3.typeIs PySem.F.entry_dict_get (PySem.F.args_dict_get_3 _ _ _) (meets_dict_get_default (mixKind X.prog X.w) d (kV_is ry) low fv) ⟨_, hm3, ?_⟩
  exact ⟨_, H3, I3.tok _, (hg3 k).getD rz, q3⟩

/-- xs.extend(t), t a tuple -/
def rExtendT (K : PySem.W.Frag) : V → List V → Hp → VK → Prop := fun x vs H Q => ∃ l b xs zs, x = .ref l ∧ vs = [.ref b] ∧ H l = some (.lst xs) ∧ SqT K H b zs ∧ xs.length + zs.length ≤ sizeLine ∧ Q .non (upd H l (.lst (xs ++ zs)))
theorem extend_tuple (l b : Addr) (its its2 : Array Value) (n n2 : Nat) (dd : Option Addr) (sl : Array (Option Value))
    (h0 : ¬(!its.isEmpty && Builtin.List.listTooLong (its.size + its2.size)) = true)
    (h1 : its.size ≤ sizeLine) (h2 : its.size + its2.size ≤ sizeLine + 1) :
    Meets (Builtin.«list.extend» ⟨[.ref l, .ref b], []⟩) (fun _ R s =>
      s.heap.get? l = some { cls := .type "list", dict := none, data := .seq its n, slots := #[] } ∧
      s.heap.get? b = some { cls := .type "tuple", dict := dd, data := .seq its2 n2, slots := sl } ∧
      R (.ok (.ret Value.none)) { s with heap := s.heap.update l (Obj.mapSeq fun x => x ++ its2), toks := s.toks }) :=
  .of_wp fun prog w A R s h => by
    obtain ⟨hp, g, d, tk, os⟩ := s
    obtain ⟨hl, hb, h⟩ := h
    have f1 := AutoSeq1.idx_int
    have f2 := AutoSeq1.sub_tuple_tuple
    have f3 := AutoSeq1.sub_list_list
    have f4 := AutoSeq1.sub_tuple_list
    have f5 := AutoSeq1.sub_list_tuple
    have hz' : (its ++ its2).size ≤ sizeLine + 1 := by
      rw [Array.size_append]
      exact h2
    wp_walk using (wpAny_updateSeq hl rfl (hz := h1) (_hz' := hz')), AutoSeq1.wpAny_loadPart' hl, AutoSeq1.wpAny_loadPart' hb
    exact ⟨_, rfl, h⟩
theorem mt_extendT : MtM X "list.extend" (rExtendT X.K) := by
  intro pins s σ H x vs v us Q I rx rv h
  obtain ⟨l, b, xs, zs, rfl, rfl, hH, hB, hz, q⟩ := h
  cases rx
  obtain ⟨u, rfl, ru⟩ := rv.one
  cases ru
  obtain ⟨z, its, n, r, hl, e⟩ := I.lstM hH
  obtain ⟨its2, r2, ⟨⟨cls, dd, dat, sl⟩, ho, hc, n2, hd⟩, hz2⟩ := I.tuple hB
  simp only at hc hd
  subst hc hd
  have hl2 := r2.length
  have hsz : its.toArray.size + its2.toArray.size ≤ sizeLine := by
    rw [List.size_toArray, List.size_toArray]
    omega
  have hlong : ¬ (!its.toArray.isEmpty && Builtin.List.listTooLong (its.toArray.size + its2.toArray.size)) = true := by
    rw [notLongL hsz, Bool.and_false]
    exact Bool.false_ne_true
  refine call_meets PySem.F.slot_list_extend ⟨_, e, rfl⟩ PySem.F.entry_list_extend (PySem.F.args_list_extend_2 _ _)
    (extend_tuple l b its.toArray its2.toArray n n2 dd sl hlong (by rw [List.size_toArray]; omega) (by omega)) ⟨e, ho, ?_⟩
  refine ⟨.non, _, I.lset (its' := its ++ its2) hH e (by simp) (r.append r2) ?_, rfl, q⟩
  rw [List.length_append]
  omega
end
end Vf

set_option Elab.async false
set_option linter.all false
set_option maxRecDepth 100000
set_option maxHeartbeats 4000000
/-! Own words: data that are shown alike. -/
namespace Vf
open PySem PySem.Spec PyProof.Rows L2
mutual
/-- data without dicts, whose ints and texts may be shown -/
def tame : PyData → Bool
  | .none => true
  | .bool _ => true
  | .int i => decide (i.natAbs < 10 ^ 30)
  | .str x => x.cps.all (· < 0x110000)
  | .list xs => tameAll xs
  | .tuple xs => tameAll xs
  | .dict _ => false
def tameAll : List PyData → Bool
  | [] => true
  | x :: r => tame x && tameAll r
end
mutual
/-- no less than the length of what is shown -/
def wt : PyData → Nat
  | .none => 4
  | .bool _ => 5
  | .int _ => 32
  | .str x => 10 * x.length + 2
  | .list xs => wtAll xs + 4
  | .tuple xs => wtAll xs + 4
  | .dict _ => 0
def wtAll : List PyData → Nat
  | [] => 0
  | x :: r => wt x + 2 + wtAll r
end
theorem listText_le (ts : List Str) : (listText ts).length ≤ piled ts + 2 := by
  have e1 : (("[" : Str)).length = 1 := rfl
  have e2 : (("]" : Str)).length = 1 := rfl
  unfold listText
  rw [Str.length_append]
  have e2' : (("]" : String) : Str).length = 1 := rfl
  cases ts with
  | nil =>
    show (("[" : Str)).length + _ ≤ _
    rw [e1, piled_nil]
    exact Nat.le_refl _
  | cons t r =>
    show (textFrom (0 + 1) (("[" : Str) ++ _ ++ t) r).length + _ ≤ _
    rw [textFrom_length_pos r 1 _ (by decide), piled_cons, Str.length_append, Str.length_append, e1]
    have e3 : (Str.ofString (if 0 > 0 then ", " else "" : String)).length = 0 := rfl
    rw [e3, e2']
    omega
theorem tupleText_le (ts : List Str) : (tupleText ts).length ≤ piled ts + 3 := by
  unfold tupleText
  rw [Str.length_append, Str.length_append]
  have e1 : (("(" : Str)).length = 1 := rfl
  have e2 : (Str.ofString (if ts.length == 1 then ",)" else ")" : String)).length ≤ 2 := by
    split
    · exact Nat.le_refl _
    · exact Nat.le_succ 1
  have e3 : (Str.join ", " ts).length ≤ piled ts := by
    by_cases h : ts = []
    · subst h
      exact Nat.le_refl _
    · have := join_length_add ts h
      omega
  rw [e1]
  omega
theorem ofs_len (i : Int) (h : i.natAbs < 10 ^ 30) : (Str.ofString (toString i)).length ≤ 30 + 1 := by
  have e : (Str.ofString (toString i)).length = (toString i).length := PySem.ofString_length _
  rw [e]
  exact int_text_length_le10 (by decide) h
mutual
theorem shown_le : ∀ d : PyData, tame d = true → d.shown.length ≤ wt d
  | .none, _ => Nat.le_refl _
  | .bool b, _ => by
    cases b
    · exact Nat.le_refl _
    · exact Nat.le_succ 4
  | .int i, h => by
    have h' : i.natAbs < 10 ^ 30 := of_decide_eq_true h
    exact Nat.le_trans (ofs_len i h') (by show 30 + 1 ≤ 32; decide)
  | .str x, h => by
    refine Nat.le_trans (StrLaws.reprText_len x ?_) (Nat.le_refl _)
    intro c hc
    have h' : x.cps.all (· < 0x110000) = true := h
    rw [← Array.all_toList, List.all_eq_true] at h'
    have := of_decide_eq_true (h' c hc)
    omega
  | .list xs, h => by
    have := shownAll_le xs h
    have := listText_le (PyData.shownAll xs)
    show (listText (PyData.shownAll xs)).length ≤ wtAll xs + 4
    omega
  | .tuple xs, h => by
    have := shownAll_le xs h
    have := tupleText_le (PyData.shownAll xs)
    show (tupleText (PyData.shownAll xs)).length ≤ wtAll xs + 4
    omega
  | .dict _, h => by cases h
theorem shownAll_le : ∀ xs : List PyData, tameAll xs = true → piled (PyData.shownAll xs) ≤ wtAll xs
  | [], _ => Nat.le_refl _
  | x :: r, h => by
    have h' : (tame x && tameAll r) = true := h
    rw [Bool.and_eq_true] at h'
    have := shown_le x h'.1
    have := shownAll_le r h'.2
    show piled (x.shown :: PyData.shownAll r) ≤ wt x + 2 + wtAll r
    rw [piled_cons]
    omega
end
mutual
theorem tame_ok : ∀ d : PyData, tame d = true → d.showable = true ∧ d.hasDict = false ∧ d.canLay0 = true
  | .none, _ => ⟨rfl, rfl, rfl⟩
  | .bool b, _ => ⟨rfl, rfl, rfl⟩
  | .int i, h => by
    have h' : i.natAbs < 10 ^ 30 := of_decide_eq_true h
    refine ⟨?_, rfl, rfl⟩
    show decide (i.natAbs.log2 < 1920) = true
    refine decide_eq_true ?_
    by_cases h0 : i.natAbs = 0
    · rw [h0]
      decide
    · exact (Nat.log2_lt h0).mpr (Nat.lt_trans h' (by decide +kernel))
  | .str x, h => ⟨rfl, rfl, h⟩
  | .list xs, h => tameAll_ok xs h
  | .tuple xs, h => tameAll_ok xs h
  | .dict _, h => by cases h
theorem tameAll_ok : ∀ xs : List PyData, tameAll xs = true → PyData.showableAll xs = true ∧ PyData.hasDictAll xs = false ∧ PyData.canLayAll0 xs = true
  | [], _ => ⟨rfl, rfl, rfl⟩
  | x :: r, h => by
    have h' : (tame x && tameAll r) = true := h
    rw [Bool.and_eq_true] at h'
    obtain ⟨a1, a2, a3⟩ := tame_ok x h'.1
    obtain ⟨b1, b2, b3⟩ := tameAll_ok r h'.2
    refine ⟨?_, ?_, ?_⟩
    · show (PyData.showable x && PyData.showableAll r) = true
      rw [a1, b1] <;> rfl
    · show (PyData.hasDict x || PyData.hasDictAll r) = false
      rw [a2, b2] <;> rfl
    · show (PyData.canLay0 x && PyData.canLayAll0 r) = true
      rw [a3, b3] <;> rfl
end
/-- data of a size that may be shown -/
structure OkD (d : PyData) : Prop where
  tm : tame d = true
  dp : d.depth ≤ 60
  sz : wt d ≤ 16000000
theorem OkD.shaped {d : PyData} (h : OkD d) : SeqAt.shaped d = true := by
  unfold SeqAt.shaped
  rw [Bool.and_eq_true]
  exact ⟨(tame_ok d h.tm).2.2, decide_eq_true (Nat.le_trans h.dp (by decide))⟩
theorem OkD.show {d : PyData} (h : OkD d) : d.shown.length ≤ sizeLine := Nat.le_trans (shown_le d h.tm) (Nat.le_trans h.sz (by decide))
theorem OkD.refl {d : PyData} (h : OkD d) : PyData.eqv d d = true := SeqAt.eqv_refl d (tame_ok d h.tm).2.2
/-- repr of a list or a tuple, of a truth, of an int -/
theorem call_repr {X : Cx} (gd : X.A.guards = some []) (hu : X.A.units + 64 < cLine) :
    CallR X (.builtin "repr") (fun xs H Q => ∃ a d, xs = [.ref a] ∧ Dp X.K H (.ref a) d ∧ OkD d ∧ Q (.str d.shown) H) := by
  intro pins s σ H xs us Q I r h
  obtain ⟨a, d, rfl, hd, ok, q⟩ := h
  obtain ⟨h1, h2, h3⟩ := tame_ok d ok.tm
  exact call_reprD gd hu pins s σ H [.ref a] us Q I r ⟨a, d, rfl, hd, h1, h2, ok.dp, ok.show, q⟩
def rListOf (K : PySem.W.Frag) : List V → Hp → VK → Prop := fun xs H Q => ∃ p ys, xs = [.ref p] ∧ (SqL K H p ys ∨ SqT K H p ys) ∧ ∀ l, H l = none → Q (.ref l) (upd H l (.lst ys))
def rLenK (K : PySem.W.Frag) : List V → Hp → VK → Prop := fun xs H Q => ∃ x n, xs = [x] ∧ LenV K x H n ∧ Q (.int n) H
def rTupOf (K : PySem.W.Frag) : List V → Hp → VK → Prop := fun xs H Q => ∃ p ys, xs = [.ref p] ∧ ((SqL K H p ys ∧ ∀ l, H l = none → Q (.ref l) (upd H l (.tup ys))) ∨ (SqT K H p ys ∧ Q (.ref p) H))
/-- two things alike -/
def spAlike (K : PySem.W.Frag) : Sp := fun vs H Q _ => ∃ (a b : Addr) (d : PyData), vs = [.ref a, .ref b] ∧ Dp K H (.ref a) d ∧ Dp K H (.ref b) d ∧ OkD d ∧ ∀ H', Same H H' → Q (.bl true) H'
theorem same_new {H : Hp} {p : Addr} {o : HO} (h : H p = none) : Same H (upd H p o) := fun b u e => by
  rw [upd_ne (ne_of_none e h)]
  exact e
theorem Tr.new {H : Hp} {v : V} {d : PyData} {p : Addr} {o : HO} (t : Tr H v d) (h : H p = none) : Tr (upd H p o) v d := t.keep ((Tk.refl H).new h)
theorem TrAll.new {H : Hp} {v : List V} {d : List PyData} {p : Addr} {o : HO} (t : TrAll H v d) (h : H p = none) : TrAll (upd H p o) v d := t.keep ((Tk.refl H).new h)
theorem same_put {H H' : Hp} {p : Addr} {o : HO} (s : Same H H') (h : H p = none) : Same H (upd H' p o) := fun b u e => by
  rw [upd_ne (ne_of_none e h)]
  exact s b u e
end Vf

set_option Elab.async false
set_option linter.all false
set_option maxRecDepth 100000
set_option maxHeartbeats 4000000
/-! Own words: an error class of one field; try whose first clause, with a name, takes all that comes. -/
namespace Vf
open PySem PySem.Spec PyProof.Rows L2

/-- the ends behind a suite; what stood in slot i is gone there -/
def clearE (i : Nat) (D : Ends) : Ends :=
  ⟨fun τ G => D.nx (τ.set i none) G, D.rt, fun τ G => D.bk (τ.set i none) G, fun τ G => D.ct (τ.set i none) G⟩
/-- wished of an exception of the body: it is the first clause's -/
def wHd (K : PySem.W.Frag) (c : Value) (i : Nat) (ts : Addr → Value → Option Addr → TS) (D : Ends) : WX :=
  fun z d τ G => PySem.W.exmOne K z c = some true ∧ ∀ a, G a = none → ts a z d (clearE i D) (τ.set i (some (.ref a))) G

section
variable {X : Cx} {x n : Str} {c : Value} {i : Nat} {body suite : List Stmt} {st : Stmt} {np pos q : Pos} {more : List ExceptHandler}
  {tb : WX → TS} {ts : Addr → Value → Option Addr → TS} {D : Ends} {pins : List (Addr × Obj)} {τ : L2.St} {G : Hp} {s : Shared}
/-- the suite runs with the exception in slot i, which is gone behind it -/
theorem hd_suite {a : Addr} {oe : Obj} {z : Value} {d : Option Addr} {vs : Array Value} (nd : X.N.Nodup) (hi : X.N[i]? = some n) (loc : X.env.kindOf n = some .local)
    (run : PSs (X.suite a ((a, oe) :: (X.pn ++ pins))) (st :: suite) (ts a z d)) (J : Inv X pins τ G s)
    {R : Flow → Shared → Prop} {Er Es : Value → Shared → Prop} (hR : ∀ fl t, wpAny (model X.prog X.w) X.A (do bindName X.env n .none; unbindBehindTheSuite X.env n q) (fun _ u => SP X pins D fl u) X.xe t → R fl t)
    (e : s.heap.get? a = some oe) (f : oe.data = .fields vs) (na : G a = none) (nl : a ≠ X.env.locals) (nf : a ∉ X.fs)
    (h : ts a z d (clearE i D) (τ.set i (some (.ref a))) G) :
    wpAny (model X.prog X.w) (X.A.mark (some (.ref a))) (storeName X.env n (.ref a))
      (fun _ t => wpAny (model X.prog X.w) (X.A.mark (some (.ref a))) (execs (st :: suite) X.env) R Er t) Es s := by
  have S := J.suite e f na nl nf
  refine store_ok (X := X.suite a ((a, oe) :: (X.pn ++ pins))) (v := .ref a) S nd hi (.inl loc) rfl (fun t T => ?_) (.inr loc)
  refine wpAny_mono (run.run [] t _ G _ T h) (fun fl u hu => hR fl u ?_) fun _ _ no => no.elim
  have away : ∀ {τ' : L2.St} {G' : Hp}, Inv (X.suite a ((a, oe) :: (X.pn ++ pins))) [] τ' G' u → (∀ u', Inv X pins (τ'.set i none) G' u' → SP X pins D fl u') →
      wpAny (model X.prog X.w) X.A (do bindName X.env n .none; unbindBehindTheSuite X.env n q) (fun _ u' => SP X pins D fl u') X.xe u :=
    fun I' k => gone_ok (I'.unsuite J.ok) nd hi loc k
  cases fl with
  | ret v =>
    obtain ⟨v', τ', G', I', r, w⟩ := hu
    exact away I' fun u' J' => ⟨v', _, G', J', r, w⟩
  | next =>
    obtain ⟨τ', G', I', w⟩ := hu
    exact away I' fun u' J' => ⟨_, G', J', w⟩
  | brk =>
    obtain ⟨τ', G', I', w⟩ := hu
    exact away I' fun u' J' => ⟨_, G', J', w⟩
  | cont =>
    obtain ⟨τ', G', I', w⟩ := hu
    exact away I' fun u' J' => ⟨_, G', J', w⟩
end
end Vf
namespace Vf
open PySem PySem.Spec PyProof.Rows L2
section
variable {X : Cx} {x n : Str} {c : Value} {i : Nat} {body suite : List Stmt} {st : Stmt} {np pos q : Pos} {more : List ExceptHandler}
  {tb : WX → TS} {ts : Addr → Value → Option Addr → TS} {D : Ends} {pins : List (Addr × Obj)} {s : Shared} {e : Value} {xo : Value → Shared → Prop}
/-- an exception that has landed is no frame -/
theorem no_frame {B : Heap} {es : List Env} {h : Heap} {a : Addr} {o : Obj} {vs : Array Value} (fr : h.FunFrames B es) (g : h.get? a = some o) (f : o.data = .fields vs) : a ∉ frs es := fun m => by
  obtain ⟨_, u, g', no⟩ := fr.mem m
  obtain rfl := Option.some.inj (g.symm.trans g')
  exact no _ f
/-- the name of the clause is read -/
theorem hd_name {a : Addr} {oe : Obj} {τ : L2.St} {G : Hp} {Q : Value → Shared → Prop} {Er : Value → Shared → Prop} (hc : Names X x c) (S : Inv (X.suite a ((a, oe) :: (X.pn ++ pins))) [] τ G s) (k : Q c s) :
    wpAny (model X.prog X.w) (X.A.mark (some (.ref a))) (eval (.Name x np) X.env) Q Er s := by
  rcases hc with ⟨gl, nb, own | ⟨free, boot, nn⟩⟩
  · exact ld_glob S gl own k nb
  · exact ld_blt S gl free boot k nn nb
theorem hd_catch (hs : X.stack = X.env :: X.outer) (hf : X.env.frame = some X.env.locals) (nd : X.N.Nodup) (hi : X.N[i]? = some n) (loc : X.env.kindOf n = some .local) (hc : Names X x c) (ok : X.Ok)
    (hsu : ∀ (a : Addr) (oe : Obj) (z : Value) (d : Option Addr) (pn : List (Addr × Obj)), Zc z d oe → (∃ vs, oe.data = .fields vs) → PSs (X.suite a ((a, oe) :: pn)) (st :: suite) (ts a z d))
    (air : XE (X.tr (X.pn ++ pins) xo) (wHd X.K c i ts D) e s) :
    wpAny (model X.prog X.w) X.A (noteFrame e X.env) (fun _ t => wpAny (model X.prog X.w) X.A (setFlight e none)
      (fun _ u => wpAny (model X.prog X.w) X.A (handleBy e X.env (.ExceptHandler (some (.Name x np)) (some n) (st :: suite) q :: more)) (SP X pins D) X.xe u) X.xe t) X.xe s := by
  obtain ⟨a, B, s0, pn, τ, G, z, d, rfl, J0, new, up, sky, na, os, bare, me, go⟩ := air
  have J : Inv X pins τ G s0 := J0.ofTry ok
  have frames : X.A.frames = some (X.env :: X.outer) := ok.frames.trans (congrArg some hs)
  refine Sky.land (B := B) Zc.steady frames hf (by rw [← hs]; exact sky) fun h1 fl1 up1 => ?_
  have J1 : Inv X pins τ G { s with heap := h1 } := J.landed new fl1.1 (up.trans up1) os bare
  obtain ⟨o1, v1, g1, z1, d1⟩ := fl1.there
  have nf := no_frame fl1.2.2.1 g1 d1
  have nl : a ≠ X.env.locals := fun eq => nf (List.mem_filterMap.mpr ⟨X.env, List.mem_cons_self, hf.trans (congrArg some eq.symm)⟩)
  have nfs : a ∉ X.fs := fun m => by
    obtain ⟨en, m1, m2⟩ := List.mem_filterMap.mp m
    exact nf (List.mem_filterMap.mpr ⟨en, List.mem_cons_of_mem _ m1, m2⟩)
  refine wpAny_handleBy_cons (codeAny_handlers_test (hd_name hc (J1.suite g1 d1 na nl nfs) ?_)) (fun no => by cases no)
  have lt : PySem.W.Looks (model X.prog X.w) h1 (typeOf (.ref a)) z := fun _ _ _ _ k w => wpAny_typeOf_ref (k _ _ g1) (by rw [z1.1]; exact w)
  refine (PySem.W.exm_one J1.kIn lt me).here (codeAny_handlers_suite_as (HandSPX.lands_againZ fl1 fun h2 fl2 up2 => ?_))
  obtain ⟨o2, v2, g2, z2, d2⟩ := fl2.there
  have J2 : Inv X pins τ G { s with heap := h2 } := J.landed new fl2.1 ((up.trans up1).trans up2) os bare
  exact hd_suite nd hi loc (hsu a o2 z d (X.pn ++ pins) z2 ⟨_, d2⟩) J2 (fun fl t w => w) g2 d2 na nl nfs (go a na)
/-- try: body, except x as n: suite, and more clauses that nothing comes to -/
theorem ps_try_hd (hs : X.stack = X.env :: X.outer) (hf : X.env.frame = some X.env.locals) (nd : X.N.Nodup) (hi : X.N[i]? = some n) (loc : X.env.kindOf n = some .local) (hc : Names X x c)
    (hb : ∀ (W : WX) (pn : List (Addr × Obj)) (xe : Value → Shared → Prop), Takes (X.tr pn xe) W → PSs (X.tr pn xe) body (tb W))
    (hsu : ∀ (a : Addr) (oe : Obj) (z : Value) (d : Option Addr) (pn : List (Addr × Obj)), Zc z d oe → (∃ vs, oe.data = .fields vs) → PSs (X.suite a ((a, oe) :: pn)) (st :: suite) (ts a z d)) :
    PS X (.Try body (.ExceptHandler (some (.Name x np)) (some n) (st :: suite) q :: more) [] [] pos) (fun D τ G => tb (wHd X.K c i ts D) D τ G) := by
  refine ⟨fun pins s τ G D I h => wpAny_Try_except ?_⟩
  have ok := I.ok
  have run := (hb (wHd X.K c i ts D) (X.pn ++ pins) _ fun u t air => hd_catch (np := np) (q := q) (more := more) hs hf nd hi loc hc ok hsu air).run [] s τ G D (I.toTry _) h
  refine wpAny_mono run (fun fl t w => ?_) fun _ _ w => w
  cases fl with
  | ret v =>
    obtain ⟨v', τ', G', J, r, w⟩ := w
    exact ⟨v', τ', G', J.ofTry ok, r, w⟩
  | next =>
    obtain ⟨τ', G', J, w⟩ := w
    exact wpAny_execs_nil ⟨τ', G', J.ofTry ok, w⟩
  | brk =>
    obtain ⟨τ', G', J, w⟩ := w
    exact ⟨τ', G', J.ofTry ok, w⟩
  | cont =>
    obtain ⟨τ', G', J, w⟩ := w
    exact ⟨τ', G', J.ofTry ok, w⟩
end
end Vf
namespace Vf
open PySem PySem.Spec PyProof.Rows L2
/-- an error class of the text that keeps one thing -/
structure XcT (K : PySem.W.Frag) (mg : Str → Option Value) (x fld : Str) (C fI : Addr) : Prop where
  gl : mg x = some (.ref C)
  cl : OexC K C
  ini : PySem.W.findIn K (.ref C) "__init__" = some (some (.ref fI))
  fn : PySem.W.typeIn K (.ref fI) = some (.type "function")
  no : PySem.W.findIn K (.ref C) fld = some none
  xf : XfC K C
  me : PySem.W.exmOne K (.ref C) (.ref C) = some true
/-- its __init__ -/
def spXi (C : Addr) (fld : Str) : Sp := fun vs H Q _ => ∃ (a : Addr) (v : V), vs = [.ref a, v] ∧ H a = some (exo a C none) ∧
  ∀ d, H d = none → d ≠ a → Q .non (upd (upd H d (exd d [(fld, v)])) a (exo a C (some d)))
theorem xi_ok {P : Program} {w : World} {K : PySem.W.Frag} {mg : Str → Option Value} {base : Heap} {x fld qual : Str} {C fI : Addr} {fd : FuncData} {sI : Stmt} {p1 p2 p3 p4 : Pos}
    (T : XcT K mg x fld C fI) (F : Fun K "__init__" qual sI fI fd) (S : FnScope ["self", fld] ["self", fld] (defScope sI))
    (hb : defBody sI = [.Assign [.Attribute (.Name "self" p1) fld p2] (.Name fld p3) p4])
    (v1 : Vis (defScope sI) "self") (v2 : Vis (defScope sI) fld) (nb : (fld == ("__debug__" : Str)) = false) (nc : (fld == ("__classdict__" : Str)) = false) :
    FnOk P w K mg base CX0 1 fI fd ["self", fld] (spXi C fld) := by
  refine F.ok S (fun vs H Q E h => ?_) (fun cdv A outer s H vs Q E hr h => ?_)
  · obtain ⟨a, v, rfl, _⟩ := h
    rfl
  · obtain ⟨a, v, rfl, ha, k⟩ := h
    rw [hb]
    refine ⟨_, pss_one (ps_ost (f := fld) (pe_var (i := 0) rfl v1 (by decide) (by decide)) (pe_var (i := 1) rfl v2 nb nc)), ?_⟩
    exact ⟨_, rfl, _, rfl, a, C, rfl, T.cl, T.no, .inl ⟨ha, fun d nd ne => k d nd ne⟩⟩
/-- the class, ready to be raised -/
structure XcR (P : Program) (w : World) (K : PySem.W.Frag) (mg : Str → Option Value) (base : Heap) (x fld : Str) (C : Addr) : Prop where
  ex : ∃ (fI : Addr) (fd : FuncData), XcT K mg x fld C fI ∧ FnOk P w K mg base CX0 1 fI fd ["self", fld] (spXi C fld) ∧ Binds K fd ["self", fld] []
theorem ps_raiseX {X : Cx} {W : WX} {x fld : Str} {C : Addr} {k : Nat} {e : Expr} {ta : TA} {p pos pos2 : Pos} (hc : X.calm = true) (R : XcR X.prog X.w X.K X.mg X.base x fld C) (hr : Room k X.A) (h2 : 2 ≤ k) (tk : Takes X W) (ha : PA X [e] ta) (hg : Gl X x := by rfl)
    (hdb : (x == ("__debug__" : Str)) = false := by decide) (he : starEach (e :: []) X.env = (false, eval e X.env) :: starEach [] X.env := by rfl) (hpl : (backTo pos (starEach [] X.env)).any (·.1) = false := by rfl) :
    PS X (.Raise (some (.Call (.Name x p) [e] [] pos)) none pos2) (fun _ σ H => tMkO C (spXi C fld) [] ta σ H fun cls d H' => W cls d σ H') := by
  obtain ⟨fI, fd, T, F, b⟩ := R.ex
  exact ps_raise hc tk (pmk_oex T.cl T.ini T.fn F (hr.mono h2) b .nil pass0 hg T.gl ha hdb he hpl)
/-- what is asked where it is made -/
theorem raiseX_in {C : Addr} {fld : Str} {H1 : Hp} {v : V} {Q : XK} (h : ∀ d H2, Same H1 H2 → H1 d = none → H2 d = some (.xd [(fld, v)]) → Q (.ref C) (some d) H2) :
    [v].length ≤ 1000 ∧ ∀ a, H1 a = none → spXi C fld (.ref a :: ([v] ++ [])) (upd H1 a (exo a C none))
      (fun u H2 => u = .non ∧ ∃ (d : Addr) (fs : List (Str × V)), H2 a = some (exo a C (some d)) ∧ H2 d = some (exd d fs) ∧ H1 d = none ∧ Q (.ref C) (some d) (upd (del H2 a) d (.xd fs))) (fun _ _ _ => False) := by
  refine ⟨Nat.le_trans (Nat.le_refl 1) (by decide), fun a na => ⟨a, v, rfl, upd_same, fun d nd ne => ⟨rfl, d, [(fld, v)], upd_same, ?_, ?_, h d _ (fun b o hb => ?_) ?_ upd_same⟩⟩⟩
  · rw [upd_ne ne, upd_same]
  · rw [upd_ne ne] at nd
    exact nd
  · rw [upd_ne ne] at nd
    rw [upd_ne (ne_of_none hb nd), del_ne (ne_of_none hb na), upd_ne (ne_of_none hb na), upd_ne (ne_of_none hb nd), upd_ne (ne_of_none hb na)]
    exact hb
  · rw [upd_ne ne] at nd
    exact nd
theorem sameT {K : PySem.W.Frag} {H H' : Hp} {a : Addr} {xs : List V} (e : Same H H') (h : SqT K H a xs) : SqT K H' a xs := by
  rcases h with (h | ⟨o, h⟩) | h
  · exact .inl (.inl (e _ _ h))
  · exact .inl (.inr ⟨o, e _ _ h⟩)
  · exact .inr h
/-- what a for walks: a list or a tuple -/
theorem pi_either {X : Cx} {tg l : Expr} {tl : TE} (hl : PE X l tl) : PI X tg l (fun σ H R => iList X.K tl σ H R ∨ iTup X.K tl σ H R) :=
  ⟨fun pins s σ H R I h => h.elim ((pi_list hl).run pins s σ H R I) ((pi_tup hl).run pins s σ H R I)⟩
/-- the turns over either -/
theorem for_either {K : PySem.W.Frag} {a : Addr} {xs : List V} {i : Nat} {g : TG} {tb : TS} {D : Ends} {σ : L2.St} {H0 H : Hp} (hq : SqL K H0 a xs ∨ SqT K H0 a xs) (hi : σ[i]? = some (some (.ref a)))
    (Pv : Nat → L2.St → Hp → Prop) (h0 : Pv 0 σ H) (hl : ∀ i σ' H', Pv i σ' H' → Same H0 H')
    (hs : ∀ i x σ H, xs[i]? = some x → Pv i σ H → g x σ H fun σ2 H2 => tb { D with nx := Pv (i + 1), ct := Pv (i + 1), bk := D.nx } σ2 H2) (hd : ∀ σ H, Pv xs.length σ H → D.nx σ H) :
    tFor (fun σ H R => iList K (tVar i) σ H R ∨ iTup K (tVar i) σ H R) g tb D σ H := by
  rcases hq with hq | hq
  · exact .inl ⟨.ref a, hi, a, rfl, ⟨xs, (hl 0 σ H h0).seq hq⟩, for_list (K := K) (a := a) (xs := xs) Pv h0 (fun j σ' H' _ p => (hl j σ' H' p).seq hq) hs hd⟩
  · exact .inr ⟨.ref a, hi, a, rfl, ⟨xs, sameT (hl 0 σ H h0) hq⟩, for_tup (K := K) (a := a) (xs := xs) Pv h0 (fun j σ' H' _ p => sameT (hl j σ' H' p) hq) hs hd⟩
end Vf
namespace Vf
open PySem PySem.Spec PyProof.Rows L2
/-- a def of the text that may raise -/
structure CalX (P : Program) (w : World) (K : PySem.W.Frag) (mg : Str → Option Value) (base : Heap) (k : Nat) (x : Str) (ps : List Str) (sp : Sp) : Prop where
  ex : ∃ (f : Addr) (fd : FuncData), FnOk P w K mg base (L2.CX P w) k f fd ps sp ∧ mg x = some (.ref f) ∧ PySem.W.keepIn K (.ref f) = true ∧ Binds K fd ps []
theorem calXOf {P : Program} {w : World} {K : PySem.W.Frag} {mg : Str → Option Value} {base : Heap} {x : Str} {st : Stmt} {N ps : List Str} {k : Nat} {sp : Sp}
    (D : DefIn K mg x st ps) (S : FnScope N ps (defScope st)) (many : ∀ vs H Q E, sp vs H Q E → vs.length = ps.length)
    (body : ∀ (f : Addr) (cdv : Value) (A : Around) (outer : List Env) (s : Shared) (H : Hp) (vs : List V) (Q : VK) (E : XK),
      Room k (A.deeper (envOfC x (defScope st) s.heap.objs.size f cdv)) → sp vs H Q E →
      ∃ t, PSs (cxOf (L2.CX P w) P w K mg base N x (defScope st) f cdv A outer s H E) (defBody st) t ∧ t { nx := fun _ H' => Q .non H', rt := Q } (start N vs) H) :
    CalX P w K mg base (k + 1) x ps sp := by
  obtain ⟨f, fd, F, hm, hb⟩ := D.ex
  exact ⟨f, fd, F.okX S many (fun cdv A o s H vs Q E hr h => body f cdv A o s H vs Q E hr h), hm, F.kp, hb⟩
theorem pe_cX {X : Cx} {k j : Nat} {x : Str} {ps : List Str} {sp : Sp} {W : WX} {p pos : Pos} {e : Expr} {es : List Expr} {t : TA} (c : CalX X.prog X.w X.K X.mg X.base k x ps sp) (hr : Room j X.A) (hk : k ≤ j) (hg : Gl X x) (tk : Takes X W) (ha : PA X (e :: es) t)
    (hdb : (x == ("__debug__" : Str)) = false := by decide) (he : starEach (e :: es) X.env = (false, eval e X.env) :: starEach es X.env := by rfl) (hpl : (backTo pos (starEach es X.env)).any (·.1) = false := by rfl) :
    PE X (.Call (.Name x p) (e :: es) [] pos) (tCallS sp (WE W) t) := by
  obtain ⟨f, fd, F, hm, kp, b⟩ := c.ex
  exact pe_callS F (hr.mono hk) hg hm kp b (fun σ => passAt tk σ) ha hdb he hpl
end Vf
namespace Vf
open PySem PySem.Spec PyProof.Rows L2
/-- an error of the class itself is what a clause of it names -/
theorem exm_me {K : PySem.W.Frag} {S : Addr} (sub : PySem.W.subIn K (.ref S) (.type "BaseException") = some true) (is : PySem.W.isClsIn K S = true) (ty : PySem.W.typeIn K (.ref S) = some (.type "type")) (own : PySem.W.subIn K (.ref S) (.ref S) = some true) :
    PySem.W.exmOne K (.ref S) (.ref S) = some true := by
  have is' : (PySem.W.clsIn K S).isSome = true := is
  unfold PySem.W.exmOne PySem.W.kitCls
  simp only [sub, is', ty, own, beq_self_eq_true, Bool.and_self, if_true]
end Vf

set_option Elab.async false
set_option linter.all false
set_option maxRecDepth 100000
set_option maxHeartbeats 4000000
/-! Own words: changes of texts. -/
namespace Vf
open PySem PySem.Spec PyProof.Rows L2
open TL (tl joinL tl_join join_eq)
theorem tl_inj {x y : Str} (h : tl x = tl y) : x = y := Str.ext' (Array.toList_inj.mp h)
theorem tl_cat (x y : Str) : tl (x ++ y) = tl x ++ tl y := by
  show (x ++ y).cps.toList = _
  rw [Str.cps_append, Array.toList_append]
theorem joinL_nil : ∀ l : List (List Nat), joinL [] l = l.flatten
  | [] => rfl
  | [p] => by simp [joinL]
  | p :: q :: r => by
    show p ++ ([] ++ joinL [] (q :: r)) = p ++ (q :: r).flatten
    rw [joinL_nil (q :: r)]
    rfl
theorem tl_glue (l : List Str) : tl (Txt.join "" l) = (l.map tl).flatten := by
  rw [join_eq, tl_join]
  exact joinL_nil _
theorem glue_snoc (l m : List Str) : Txt.join "" (l ++ m) = Txt.join "" l ++ Txt.join "" m := by
  apply tl_inj
  rw [tl_cat, tl_glue, tl_glue, tl_glue, List.map_append, List.flatten_append]
theorem glue_two (l : List Str) (x y : Str) : Txt.join "" (l ++ [x, y]) = Txt.join "" l ++ x ++ y := by
  apply tl_inj
  rw [glue_snoc, tl_cat, tl_cat, tl_cat, tl_glue [x, y]]
  simp
theorem str_len (x : Str) : x.length = (tl x).length := by
  simp [Str.length]
theorem glue_len (l : List Str) : (Txt.join "" l).length = (l.map (·.length)).sum := by
  rw [str_len, tl_glue, List.length_flatten, List.map_map]
  congr 1
theorem sum_le {n : Nat} : ∀ {l : List Str}, (∀ x ∈ l, x.length ≤ n) → (l.map (·.length)).sum ≤ l.length * n
  | [], _ => Nat.zero_le _
  | x :: r, h => by
    have a := h x (List.mem_cons_self ..)
    have b := sum_le fun y hy => h y (List.mem_cons_of_mem _ hy)
    simp only [List.map_cons, List.sum_cons, List.length_cons, Nat.succ_mul]
    omega
/-- signs that can be shown -/
def Nice (x : Str) : Prop := ∀ c ∈ tl x, c < 0x110000
theorem Nice.tame {x : Str} (h : Nice x) : Vf.tame (.str x) = true := by
  show x.cps.all _ = true
  rw [← Array.all_toList, List.all_eq_true]
  exact fun c hc => decide_eq_true (h c hc)
theorem Nice.cat {x y : Str} (a : Nice x) (b : Nice y) : Nice (x ++ y) := fun c hc => by
  rw [tl_cat, List.mem_append] at hc
  exact hc.elim (a c) (b c)
theorem Nice.glue {l : List Str} (h : ∀ x ∈ l, Nice x) : Nice (Txt.join "" l) := fun c hc => by
  rw [tl_glue, List.mem_flatten] at hc
  obtain ⟨p, hp, hc⟩ := hc
  obtain ⟨x, hx, rfl⟩ := List.mem_map.mp hp
  exact h x hx c hc
theorem cut_mem {x : Str} {lo hi : Option Int} {c : Nat} (h : c ∈ tl (cutS x lo hi)) : c ∈ tl x := by
  unfold cutS at h
  simp only [tl] at h ⊢
  first
    | exact List.mem_of_mem_drop (List.mem_of_mem_take (by simpa using h))
    | exact List.mem_of_mem_take (List.mem_of_mem_drop (by simpa using h))
theorem Nice.cut {x : Str} (h : Nice x) (lo hi : Option Int) : Nice (cutS x lo hi) := fun c hc => h c (cut_mem hc)
theorem nice_of {x : Str} (h : (tl x).all (· < 0x110000) = true) : Nice x := fun c hc => of_decide_eq_true (List.all_eq_true.mp h c hc)

/-- a change: its begin, its end, its string -/
structure Ch where
  b : Int
  e : Int
  s : Str
def chD (c : Ch) : PyData := .tuple [.int c.b, .int c.e, .str c.s]
/-- the first change that is refused, l being the end of the one ahead -/
def firstBad (n : Int) : Int → List Ch → Option Ch
  | _, [] => none
  | l, c :: r => if n < c.e ∨ c.b < l then some c else firstBad n c.e r
def stp (t : Str) (p : List Str × Int) (c : Ch) : List Str × Int := (p.1 ++ [cutS t (some p.2) (some c.b), c.s], c.e)
def stAt (t : Str) (cs : List Ch) (i : Nat) : List Str × Int := (cs.take i).foldl (stp t) ([], 0)
theorem stAt_succ {t : Str} {cs : List Ch} {i : Nat} {c : Ch} (h : cs[i]? = some c) : stAt t cs (i + 1) = stp t (stAt t cs i) c := by
  unfold stAt
  rw [List.take_add_one, h, List.foldl_append]
  rfl
theorem drop_at {α : Type} {cs : List α} {i : Nat} {c : α} (h : cs[i]? = some c) : cs.drop i = c :: cs.drop (i + 1) := by
  obtain ⟨hi, e⟩ := List.getElem?_eq_some_iff.mp h
  rw [List.drop_eq_getElem_cons hi, e]
/-- what all make -/
def allCh (t : Str) (cs : List Ch) : Str := Txt.join "" (stAt t cs cs.length).1 ++ cutS t (some (stAt t cs cs.length).2) none
def dueD (t : Str) (cs : List Ch) : PyData := match firstBad t.length 0 cs with
  | some c => .tuple [.str "no change", chD c]
  | none => .tuple [.str "told", .str (allCh t cs)]
theorem due_bad {t : Str} {cs : List Ch} {c : Ch} (h : firstBad t.length 0 cs = some c) : dueD t cs = .tuple [.str "no change", chD c] := by
  unfold dueD
  rw [h]
theorem due_ok {t : Str} {cs : List Ch} (h : firstBad t.length 0 cs = none) : dueD t cs = .tuple [.str "told", .str (allCh t cs)] := by
  unfold dueD
  rw [h]
/-- changes that are not too large -/
structure ChOk (c : Ch) : Prop where
  b : c.b.natAbs ≤ 1000
  e : c.e.natAbs ≤ 1000
  s : c.s.length ≤ 100
  n : Nice c.s
theorem parts_ok {t : Str} (nt : Nice t) (lt : t.length ≤ 1000) {cs : List Ch} (h : ∀ c ∈ cs, ChOk c) : ∀ i, (stAt t cs i).1.length ≤ 2 * i ∧ ∀ x ∈ (stAt t cs i).1, x.length ≤ 1000 ∧ Nice x
  | 0 => ⟨Nat.le_refl _, fun x hx => by cases hx⟩
  | i + 1 => by
    obtain ⟨a, b⟩ := parts_ok nt lt h i
    cases e : cs[i]? with
    | none =>
      have : stAt t cs (i + 1) = stAt t cs i := by
        unfold stAt
        rw [List.take_add_one, e]
        simp
      rw [this]
      exact ⟨by omega, b⟩
    | some c =>
      have k := h c (List.mem_of_getElem? e)
      rw [stAt_succ e]
      refine ⟨?_, fun x hx => ?_⟩
      · show ((stAt t cs i).1 ++ [_, _]).length ≤ _
        rw [List.length_append]
        simp only [List.length_cons, List.length_nil]
        omega
      · rcases List.mem_append.mp (show x ∈ (stAt t cs i).1 ++ [cutS t (some (stAt t cs i).2) (some c.b), c.s] from hx) with hx | hx
        · exact b x hx
        · rcases List.mem_cons.mp hx with rfl | hx
          · exact ⟨Nat.le_trans (cutS_length _ _ _) lt, nt.cut _ _⟩
          · cases List.mem_singleton.mp hx
            exact ⟨Nat.le_trans k.s (by decide), k.n⟩
theorem all_len {t : Str} (nt : Nice t) (lt : t.length ≤ 1000) {cs : List Ch} (h : ∀ c ∈ cs, ChOk c) (lc : cs.length ≤ 100) (i : Nat) (hi : i ≤ cs.length) :
    (Txt.join "" (stAt t cs i).1).length ≤ 200000 ∧ ((stAt t cs i).1.map (·.length)).sum ≤ 200000 := by
  obtain ⟨a, b⟩ := parts_ok nt lt h i
  have z := sum_le fun x hx => (b x hx).1
  rw [glue_len]
  omega
theorem chD_ok {c : Ch} (h : ChOk c) : tame (chD c) = true ∧ (chD c).depth = 1 ∧ wt (chD c) ≤ 2000 := by
  obtain ⟨hb, he, hs, hn⟩ := h
  refine ⟨?_, rfl, ?_⟩
  · show (decide (c.b.natAbs < 10 ^ 30) && (decide (c.e.natAbs < 10 ^ 30) && (tame (.str c.s) && true))) = true
    rw [hn.tame, decide_eq_true (Nat.lt_of_le_of_lt hb (by decide +kernel)), decide_eq_true (Nat.lt_of_le_of_lt he (by decide +kernel))] <;> rfl
  · show 32 + 2 + (32 + 2 + (10 * c.s.length + 2 + 2 + 0)) + 4 ≤ 2000
    omega
theorem firstBad_mem {n : Int} : ∀ {cs : List Ch} {l : Int} {c : Ch}, firstBad n l cs = some c → c ∈ cs
  | [], _, _, h => by cases h
  | x :: r, l, c, h => by
    unfold firstBad at h
    split at h
    · cases h
      exact List.mem_cons_self ..
    · exact List.mem_cons_of_mem _ (firstBad_mem h)
theorem due_okd {t : Str} (nt : Nice t) (lt : t.length ≤ 1000) {cs : List Ch} (h : ∀ c ∈ cs, ChOk c) (lc : cs.length ≤ 100) : OkD (dueD t cs) := by
  cases e : firstBad t.length 0 cs with
  | some c =>
    rw [due_bad e]
    obtain ⟨a1, a2, a3⟩ := chD_ok (h c (firstBad_mem e))
    refine ⟨?_, ?_, ?_⟩
    · show (tame (.str "no change") && (tame (chD c) && true)) = true
      rw [a1, show tame (.str "no change") = true by decide +kernel] <;> rfl
    · show max 0 (max (chD c).depth 0) + 1 ≤ 60
      rw [a2]
      decide
    · show 10 * ("no change" : Str).length + 2 + 2 + (wt (chD c) + 2 + 0) + 4 ≤ 16000000
      rw [show (("no change" : Str)).length = 9 from rfl]
      omega
  | none =>
    rw [due_ok e]
    obtain ⟨p1, p2⟩ := parts_ok nt lt h cs.length
    have q := (all_len nt lt h lc cs.length (Nat.le_refl _)).1
    have nn : Nice (allCh t cs) := (Nice.glue fun x hx => (p2 x hx).2).cat (nt.cut _ _)
    have ll : (allCh t cs).length ≤ 201000 := by
      unfold allCh
      have := cutS_length t (some (stAt t cs cs.length).2) none
      rw [Str.length_append]
      omega
    refine ⟨?_, Nat.le_trans (Nat.le_refl 1) (by decide), ?_⟩
    · show (tame (.str "told") && (tame (.str (allCh t cs)) && true)) = true
      rw [nn.tame, show tame (.str "told") = true by decide +kernel] <;> rfl
    · show 10 * ("told" : Str).length + 2 + 2 + (10 * (allCh t cs).length + 2 + 2 + 0) + 4 ≤ 16000000
      rw [show (("told" : Str)).length = 4 from rfl]
      omega
theorem chs_okd : ∀ {cs : List Ch}, (∀ c ∈ cs, ChOk c) → tameAll (cs.map chD) = true ∧ PyData.depthAll (cs.map chD) ≤ 1 ∧ wtAll (cs.map chD) ≤ cs.length * 2002
  | [], _ => ⟨rfl, Nat.zero_le _, Nat.le_refl _⟩
  | c :: r, h => by
    obtain ⟨a1, a2, a3⟩ := chD_ok (h c (List.mem_cons_self ..))
    obtain ⟨b1, b2, b3⟩ := chs_okd fun x hx => h x (List.mem_cons_of_mem _ hx)
    refine ⟨?_, ?_, ?_⟩
    · show (tame (chD c) && tameAll (r.map chD)) = true
      rw [a1, b1] <;> rfl
    · show max (chD c).depth (PyData.depthAll (r.map chD)) ≤ 1
      rw [a2]
      omega
    · show wt (chD c) + 2 + wtAll (r.map chD) ≤ (r.length + 1) * 2002
      omega
/-- what stands there for a change -/
theorem ch_at {H : Hp} {v : V} {c : Ch} (t : Tr H v (chD c)) : ∃ q, v = .ref q ∧ H q = some (.tup [.int c.b, .int c.e, .str c.s]) := by
  unfold chD at t
  cases t with
  | tup h r =>
    cases r with
    | cons h1 r =>
      cases h1
      cases r with
      | cons h2 r =>
        cases h2
        cases r with
        | cons h3 r =>
          cases h3
          cases r
          exact ⟨_, rfl, h⟩
theorem chs_at {H : Hp} {xs : List V} {cs : List Ch} (t : TrAll H xs (cs.map chD)) {i : Nat} {y : V} (h : xs[i]? = some y) : ∃ c q, cs[i]? = some c ∧ y = .ref q ∧ H q = some (.tup [.int c.b, .int c.e, .str c.s]) ∧ Tr H y (chD c) := by
  obtain ⟨d, hd, ty⟩ := t.get h
  rw [List.getElem?_map] at hd
  obtain ⟨c, hc, rfl⟩ := Option.map_eq_some_iff.mp hd
  obtain ⟨q, rfl, hq⟩ := ch_at ty
  exact ⟨c, q, hc, rfl, hq, ty⟩
end Vf
namespace Vf
open PySem PySem.Spec PyProof.Rows L2
/-- a text, and the changes of it in a list or a tuple -/
structure Chs (K : PySem.W.Frag) (H : Hp) (t : Str) (a : Addr) (xs : List V) (cs : List Ch) : Prop where
  sq : SqL K H a xs ∨ SqT K H a xs
  tr : TrAll H xs (cs.map chD)
  nt : Nice t
  lt : t.length ≤ 1000
  ok : ∀ c ∈ cs, ChOk c
  lc : cs.length ≤ 100
theorem Chs.len {K : PySem.W.Frag} {H : Hp} {t : Str} {a : Addr} {xs : List V} {cs : List Ch} (h : Chs K H t a xs cs) : xs.length = cs.length := by
  rw [h.tr.len, List.length_map]
theorem Chs.same {K : PySem.W.Frag} {H H' : Hp} {t : Str} {a : Addr} {xs : List V} {cs : List Ch} (h : Chs K H t a xs cs) (s : Same H H') : Chs K H' t a xs cs :=
  ⟨h.sq.elim (fun q => .inl (s.seq q)) (fun q => .inr (sameT s q)), h.tr.keep (Tk.of s), h.nt, h.lt, h.ok, h.lc⟩
def spAllX (K : PySem.W.Frag) (C : Addr) : Sp := fun vs H Q E => ∃ (t : Str) (a : Addr) (xs : List V) (cs : List Ch), vs = [.str t, .ref a] ∧ Chs K H t a xs cs ∧
  (∀ c v d H', firstBad t.length 0 cs = some c → Tr H' v (chD c) → Same H H' → H' d = some (.xd [(("change" : Str), v)]) → E (.ref C) (some d) H') ∧
  (firstBad t.length 0 cs = none → ∀ H', Same H H' → Q (.str (allCh t cs)) H')
/-- told, or refused -/
def spDue (K : PySem.W.Frag) : Sp := fun vs H Q _ => ∃ (t : Str) (a : Addr) (xs : List V) (cs : List Ch), vs = [.str t, .ref a] ∧ Chs K H t a xs cs ∧
  ∀ v H', Same H H' → Tr H' v (dueD t cs) → Q v H'
def spAllC (K : PySem.W.Frag) : Sp := fun vs H Q _ => ∃ (t : Str) (a : Addr) (xs : List V) (cs : List Ch), vs = [.str t, .ref a] ∧ Chs K H t a xs cs ∧ ∀ H', Same H H' → Q (.str (allCh t cs)) H'
end Vf
namespace Vf
open PySem PySem.Spec PyProof.Rows L2
/-- one of some written things -/
theorem pick_of {K : PySem.W.Frag} {g : Bg} {H1 : Hp} {c e : Int} {l : List V} {p : Addr} {Q : VK} (B : Bag H1 g c e) (hp : H1 p = none) (h0 : 0 < l.length) (h1 : l.length < 1000)
    (k : ∀ v H3, v ∈ l → Drawn g H1 H3 c e → Q v H3) : spOne K [.ref g.b, .ref p] (upd H1 p (.lst l)) Q E0 :=
  ⟨g, _, c, e, rfl, B.new hp, .inl ⟨p, l, rfl, .inl (SqL.of upd_same), B.ne_new hp, h0, h1, fun v H3 hv D => k v H3 hv (((Drawn.of B).new hp).trans D)⟩⟩
theorem strs_in {l : List Str} {v : V} (h : v ∈ l.map V.str) : ∃ z, z ∈ l ∧ v = .str z := by
  obtain ⟨z, hz, rfl⟩ := List.mem_map.mp h
  exact ⟨z, hz, rfl⟩
theorem ints_in {l : List Int} {v : V} (h : v ∈ l.map V.int) : ∃ z, z ∈ l ∧ v = .int z := by
  obtain ⟨z, hz, rfl⟩ := List.mem_map.mp h
  exact ⟨z, hz, rfl⟩
theorem TrAll.set' {H : Hp} {v : V} {d : PyData} (t : Tr H v d) : ∀ {vs : List V} {ds : List PyData} (j : Nat), TrAll H vs ds → TrAll H (vs.set j v) (ds.set j d)
  | _, _, _, .nil => .nil
  | _, _, 0, .cons _ r => .cons t r
  | _, _, j + 1, .cons h r => .cons h (TrAll.set' t j r)
theorem tr_due {H : Hp} {v : V} {t : Str} {cs : List Ch} (h : Tr H v (dueD t cs)) : ∃ p, v = .ref p := by
  cases e : firstBad t.length 0 cs with
  | some c =>
    rw [due_bad e] at h
    cases h
    exact ⟨_, rfl⟩
  | none =>
    rw [due_ok e] at h
    cases h
    exact ⟨_, rfl⟩
theorem lst_okd {cs : List Ch} (h : ∀ c ∈ cs, ChOk c) (l : cs.length ≤ 100) : OkD (.list (cs.map chD)) ∧ OkD (.tuple (cs.map chD)) := by
  obtain ⟨a, b, c⟩ := chs_okd h
  refine ⟨⟨a, ?_, ?_⟩, ⟨a, ?_, ?_⟩⟩
  · show PyData.depthAll (cs.map chD) + 1 ≤ 60
    omega
  · show wtAll (cs.map chD) + 4 ≤ 16000000
    omega
  · show PyData.depthAll (cs.map chD) + 1 ≤ 60
    omega
  · show wtAll (cs.map chD) + 4 ≤ 16000000
    omega
/-- where the item stood -/
theorem at_of_ix {α : Type} {xs : List α} {r : Int} (h0 : 0 ≤ r) (h1 : r < (xs.length : Int)) : ∃ (j : Nat) (v : α), xs[j]? = some v ∧ atI xs r = some v ∧ ixN xs.length r = some j := by
  obtain ⟨j, rfl⟩ := Int.eq_ofNat_of_zero_le h0
  have hj : j < xs.length := by omega
  refine ⟨j, xs[j], List.getElem?_eq_getElem hj, atI_nat (j := j) (List.getElem?_eq_getElem hj), ?_⟩
  first
    | exact ixN_nat hj
    | (unfold ixN; simp [hj])
theorem chs_set {cs : List Ch} {c : Ch} (j : Nat) (h : ∀ x ∈ cs, ChOk x) (hc : ChOk c) : ∀ x ∈ cs.set j c, ChOk x := fun x hx => by
  rcases List.mem_or_eq_of_mem_set hx with q | q
  · exact h x q
  · rw [q]
    exact hc
end Vf

set_option Elab.async false
set_option linter.all false
set_option maxRecDepth 100000
set_option maxHeartbeats 4000000
/-! The end of a law some of whose defs make lambdas: their code objects and the tables of what they made, in a list. -/
namespace Vf
open PySem PySem.Spec PyProof.Rows L2
open LamX (CodeO TabS Tabs ExtN TabB)
abbrev tabE : Obj := { cls := .none, data := .fields #[] }
section
variable {P : Program} {w : World} {K : PySem.W.Frag}
  {mg mb : Str → Option Value} {k : Nat} {fa a : Addr} {fd : FuncData}
  {x : Str} {sp : Sp} {s₁ : Shared} {vs : List Value} {ns : List Int} {L : List (Addr × Addr)}

theorem law_goesY (KX : K.In s₁.heap)
    (hns : s₁.heap.Ns mainGlobals mg) (hb : s₁.heap.Ns builtinsNs mb)
    (hbb : ∀ y : Str, y ≠ "__name__" → mb y = bootBuiltins y)
    (hlim : s₁.heap.NoLimit) (hgen : s₁.gens = #[])
    (hT : ∀ p ∈ L, s₁.heap.get? p.2 = some tabE ∧ K.lookup p.2 = none ∧ PySem.W.CodeHd s₁.heap p.1 p.2)
    (hbm : ∃ (bm : Addr) (ob : Obj), mg "__builtins__" = some (.ref bm) ∧ bm ≠ builtinsNs ∧ s₁.heap.get? bm = some ob ∧ ob.cls = .type "module" ∧ ob.dict = some builtinsNs ∧ ob.data = .plain)
    (ha : s₁.heap.get? a =
      some { cls := .type "list", data := .seq vs.toArray })
    (hr : Room k callerA)
    (F : ∀ base : Heap, K.In base → base.Ns mainGlobals mg → (∀ p ∈ L, TabB base mg p.1 p.2) →
      FnG P w K mg base k fa fd [x] sp)
    (bind : ∀ (s : Shared) (u : Value),
      BindsTo s fd ⟨[u], []⟩ [(x, u)])
    (H : Hp) (hHT : ∀ p ∈ L, H p.2 = some (.tbl #[])) (hO : ∀ b, H b = none ∨ (∃ p ∈ L, b = p.2) ∨ ∃ o xs, H b = some (.frz o (.lst xs))) (ok : HOk P w H s₁.heap)
    (alone : ∀ b, H b ≠ none → b = a ∨ ∃ p ∈ L, b = p.2)
    (notK : H a ≠ none → K.lookup a = none)
    (hs : sp [.ref a] H (fun v _ => v = .bl true) fun _ _ _ => False) :
    codeAny (model P w) callerA (.call (.ref fa) ⟨[.ref a], []⟩)
      (LawEnd s₁) s₁ := by
  have free : ∀ {b : Addr} {o : Obj}, s₁.heap.get? b = some o → (∀ xs n, o.data ≠ .seq xs n) → o.data ≠ .fields #[] → H b = none := by
    intro b o e d1 d2
    cases q : H b with
    | none => rfl
    | some u =>
      rcases alone b (by rw [q]; exact Option.some_ne_none u) with z | ⟨p, hp, z⟩
      · rw [z, ha] at e
        cases e
        exact absurd rfl (d1 _ _)
      · rw [z, (hT p hp).1] at e
        cases e
        exact absurd rfl d2
  have ns' : ∀ {b : Addr} {m : Str → Option Value},
      s₁.heap.Ns b m → (hidT s₁.heap H).Ns b m := by
    rintro b m ⟨o, es, ep, e, d, r⟩
    refine ⟨o, es, ep, hidT_get e (free e (fun xs n z => ?_) fun z => ?_), d, r⟩
    · rw [d] at z
      cases z
    · rw [d] at z
      cases z
  have kin : K.In (hidT s₁.heap H) := by
    intro b o e
    refine hidT_get (KX b o e) ?_
    cases q : H b with
    | none => rfl
    | some u =>
      rcases alone b (by rw [q]; exact Option.some_ne_none u) with z | ⟨p, hp, z⟩
      · have z2 := notK (by rw [← z, q]; exact Option.some_ne_none u)
        rw [z, z2] at e
        cases e
      · rw [z, (hT p hp).2.1] at e
        cases e
  have lim' : (hidT s₁.heap H).NoLimit := by
    obtain ⟨mc, h1, h2⟩ := hlim
    exact ⟨mc, ns' h1, h2⟩
  have M : Mod K mg (hidT s₁.heap H) :=
    ⟨kin, ns' hns, ⟨mb, ns' hb, hbb⟩, lim'⟩
  have TB : ∀ p ∈ L, TabB (hidT s₁.heap H) mg p.1 p.2 := fun p hp => by
    obtain ⟨eT, nT, C⟩ := hT p hp
    have notMain : mainGlobals ≠ p.2 := fun z => by
      obtain ⟨o, es, ep, e, d, _⟩ := hns
      rw [z, eT] at e
      cases e
      cases d
    refine ⟨?_, ?_, notMain⟩
    · obtain ⟨o, us, fl, tf, fg, tg, inF, tx, tt, e, r1, r2, r3, rest⟩ := C
      refine ⟨o, us, fl, tf, fg, tg, inF, tx, tt, hidT_get e (free e (fun xs n z => ?_) fun z => ?_), r1, r2, r3, rest⟩
      · rw [r2] at z
        cases z
      · rw [r2] at z
        cases z
        simp at r3
    · obtain ⟨bm, ob, m1, m2, m3, m4, m5, m6⟩ := hbm
      refine ⟨bm, ob, m1, m2, fun z => ?_, fun z => ?_, hidT_get m3 (free m3 (fun xs n z => ?_) fun z => ?_), m4, m5, m6⟩
      · obtain ⟨o, es, ep, e, d, _⟩ := hns
        rw [z, e] at m3
        cases m3
        rw [m6] at d
        cases d
      · rw [z, eT] at m3
        cases m3
        cases m6
      · rw [m6] at z
        cases z
      · rw [m6] at z
        cases z
  have none_in : ∀ b : Addr, b ∉ ([] : List Addr) := fun b => by simp
  have env : Env0 P w K mg (hidT s₁.heap H) callerA [] s₁ H :=
    ⟨rfl, M, fun b o e => of_hidT e, Nat.le_of_eq (hidT_size _ _),
      trivial, fun b z => absurd z (none_in b), ok, .of_eq hgen⟩
  refine codeAny_mono ((F _ kin (ns' hns) TB).go callerA [] s₁ H
    ⟨[.ref a], []⟩ [.ref a] [.ref a] _ _ hr rfl env
    (bind s₁ (.ref a)) (.cons rfl .nil) hs) ?_
  intro r s' h
  cases r with
  | error e => exact (h : False).elim
  | ok fl =>
    cases fl with
    | next => exact (h : False).elim
    | brk => exact (h : False).elim
    | cont => exact (h : False).elim
    | ret u =>
      obtain ⟨v, H', os, bare, un, ok', rv, q⟩ := h
      obtain rfl : v = .bl true := q
      obtain rfl : u = Value.bool true := rv
      have same : ∀ b o, (∀ p ∈ L, b ≠ p.2) → s₁.heap.get? b = some o → s'.heap.get? b = some o := by
        intro b o nb e
        cases q : H b with
        | none => exact un.keep b o e q (none_in b) (none_in b)
        | some u =>
          rcases hO b with z | ⟨p, hp, z⟩ | ⟨ob, xs, z⟩
          · rw [q] at z
            cases z
          · exact absurd z (nb p hp)
          · obtain ⟨e1, _⟩ := ok b _ z
            obtain ⟨e2, _⟩ := ok' b _ (un.frzs b ob _ z)
            rw [e] at e1
            cases e1
            exact e2
      have grown : ∀ p ∈ L, ∃ more, s'.heap.get? p.2 = some { cls := .none, data := .fields (#[] ++ more) } := fun p hp => by
        obtain ⟨more, z⟩ := un.tbls p.2 #[] (hHT p hp)
        exact ⟨more, ok' p.2 _ z⟩
      refine ⟨rfl, ⟨fun b o e => ?_, fun b o e => ?_⟩, os, bare⟩
      · by_cases nb : ∀ p ∈ L, b ≠ p.2
        · exact .inl (same b o nb e)
        · obtain ⟨p, hz⟩ := Classical.not_forall.mp nb
          obtain ⟨hp, e2⟩ := Classical.not_imp.mp hz
          obtain rfl := Classical.not_not.mp e2
          obtain ⟨more, g⟩ := grown p hp
          rw [(hT p hp).1] at e
          cases e
          exact .inr (.inl ⟨((hT p hp).2.2.tab (hT p hp).1).isCodeTable, rfl, #[], more, rfl, g⟩)
      · by_cases nb : ∀ p ∈ L, b ≠ p.2
        · exact ⟨o, same b o nb e⟩
        · obtain ⟨p, hz⟩ := Classical.not_forall.mp nb
          obtain ⟨hp, e2⟩ := Classical.not_imp.mp hz
          obtain rfl := Classical.not_not.mp e2
          obtain ⟨more, g⟩ := grown p hp
          exact ⟨_, g⟩

theorem law_goesY2 (KX : K.In s₁.heap)
    (hns : s₁.heap.Ns mainGlobals mg) (hb : s₁.heap.Ns builtinsNs mb)
    (hbb : ∀ y : Str, y ≠ "__name__" → mb y = bootBuiltins y)
    (hlim : s₁.heap.NoLimit) (hgen : s₁.gens = #[])
    (hT : ∀ p ∈ L, s₁.heap.get? p.2 = some tabE ∧ K.lookup p.2 = none ∧ PySem.W.CodeHd s₁.heap p.1 p.2)
    (hbm : ∃ (bm : Addr) (ob : Obj), mg "__builtins__" = some (.ref bm) ∧ bm ≠ builtinsNs ∧ s₁.heap.get? bm = some ob ∧ ob.cls = .type "module" ∧ ob.dict = some builtinsNs ∧ ob.data = .plain)
    (ha : s₁.heap.get? a =
      some { cls := .type "list", data := .seq vs.toArray })
    (hi : IntsAre vs ns) (hl : ns.length ≤ sizeLine)
    (hr : Room k callerA)
    (F : ∀ base : Heap, K.In base → base.Ns mainGlobals mg → (∀ p ∈ L, TabB base mg p.1 p.2) →
      FnG P w K mg base k fa fd [x] sp)
    (bind : ∀ (s : Shared) (u : Value),
      BindsTo s fd ⟨[u], []⟩ [(x, u)])
    (hs : ∀ H : Hp, (∀ p ∈ L, H p.2 = some (.tbl #[])) → SqL K H a (ns.map V.int) →
      sp [.ref a] H (fun v _ => v = .bl true) fun _ _ _ => False) :
    codeAny (model P w) callerA (.call (.ref fa) ⟨[.ref a], []⟩)
      (LawEnd s₁) s₁ := by
  have rv := vals_ints hi
  have aT : a ∉ L.map (·.2) := fun z => by
    obtain ⟨p, hp, e⟩ := List.mem_map.mp z
    have e2 := (hT p hp).1
    rw [e, ha] at e2
    cases e2
  have into : ∀ {p : Addr × Addr}, p ∈ L → p.2 ∈ L.map (·.2) := fun hp => List.mem_map.mpr ⟨_, hp, rfl⟩
  have out : ∀ {b : Addr}, b ∈ L.map (·.2) → ∃ p ∈ L, b = p.2 := fun h => by
    obtain ⟨p, hp, e⟩ := List.mem_map.mp h
    exact ⟨p, hp, e.symm⟩
  cases hk : K.lookup a with
  | some o =>
    have e := KX a o hk
    rw [ha] at e
    cases e
    refine law_goesY KX hns hb hbb hlim hgen hT hbm ha hr F bind
      (fun b => if b ∈ L.map (·.2) then some (.tbl #[]) else none) (fun p hp => if_pos (into hp)) (fun b => ?_) (fun b u z => ?_)
      (fun b z => ?_) (fun z => absurd (if_neg aT) z) (hs _ (fun p hp => if_pos (into hp)) ?_)
    · by_cases q : b ∈ L.map (·.2)
      · exact .inr (.inl (out q))
      · exact .inl (if_neg q)
    · by_cases q : b ∈ L.map (·.2)
      · have z' := (if_pos q).symm.trans z
        cases z'
        obtain ⟨p, hp, rfl⟩ := out q
        exact (hT p hp).1
      · have z' := (if_neg q).symm.trans z
        cases z'
    · by_cases q : b ∈ L.map (·.2)
      · exact .inr (out q)
      · exact absurd (if_neg q) z
    refine .inr ⟨_, vs.toArray, _, hk, rfl, rfl, rfl, ?_, by simpa using rv⟩
    rw [List.size_toArray, hi.length]
    exact hl
  | none =>
    have e1 : ∀ p ∈ L, ∀ {u v : Option HO}, (if p.2 = a then u else if p.2 ∈ L.map (·.2) then v else none) = v := fun p hp {u v} => by
      rw [if_neg (fun z => aT (by rw [← z]; exact into hp)), if_pos (into hp)]
    refine law_goesY KX hns hb hbb hlim hgen hT hbm ha hr F bind
      (fun b => if b = a then some (.frz { cls := .type "list", data := .seq vs.toArray } (.lst (ns.map V.int))) else if b ∈ L.map (·.2) then some (.tbl #[]) else none) (fun p hp => e1 p hp) (fun b => ?_)
      (fun b u z => ?_) (fun b z => ?_) (fun _ => hk)
      (hs _ (fun p hp => e1 p hp) (.inl (.inr ⟨_, if_pos rfl⟩)))
    · by_cases q : b = a
      · exact .inr (.inr ⟨_, _, if_pos q⟩)
      · by_cases q2 : b ∈ L.map (·.2)
        · exact .inr (.inl (out q2))
        · exact .inl ((if_neg q).trans (if_neg q2))
    · by_cases q : b = a
      · have z' := (if_pos q).symm.trans z
        cases z'
        subst q
        exact ⟨ha, by rw [List.length_map]; exact hl, vs, _, rv, ha⟩
      · by_cases q2 : b ∈ L.map (·.2)
        · have z' := ((if_neg q).trans (if_pos q2)).symm.trans z
          cases z'
          obtain ⟨p, hp, rfl⟩ := out q2
          exact (hT p hp).1
        · have z' := ((if_neg q).trans (if_neg q2)).symm.trans z
          cases z'
    · by_cases q : b = a
      · exact .inl q
      · by_cases q2 : b ∈ L.map (·.2)
        · exact .inr (out q2)
        · exact absurd ((if_neg q).trans (if_neg q2)) z
end

/-- the goal that the head leaves -/
theorem walk_ofY {l : PySem.W.OpenLaw} {n k : Nat} {q : Program}
    {loose : List Str} {XP : (Str → Option Value) → Heap → Prop}
    {YP : World → Heap → Prop} {d : DefRec}
    {K : Params → PySem.W.Frag} {sp : World → Sp} {x : Str} {Ts : List Addr}
    (hn : l.most = some n) (hn2 : n ≤ sizeLine)
    (hdf : d.params.defaults = []) (hr : Room k callerA)
    (hY : ∀ (w : World) (h : Heap), YP w h → (K w.params).In h ∧ ∀ T ∈ Ts, h.get? T = some tabE)
    (F : ∀ (w : World) (mg : Str → Option Value) (fa : Addr) (h : Heap),
      (K w.params).In h → h.Ns mainGlobals mg →
      mg d.name = some (.ref fa) →
      ∃ (fd : FuncData) (L : List (Addr × Addr)), (∀ p ∈ L, PySem.W.codeHdIn (K w.params) p.1 p.2 = true ∧ (K w.params).lookup p.2 = none) ∧ L.map (·.2) = Ts ∧
        (∀ (s : Shared) (u : Value), BindsTo s fd ⟨[u], []⟩ [(x, u)]) ∧
        ∀ base : Heap, (K w.params).In base → base.Ns mainGlobals mg → (∀ p ∈ L, TabB base mg p.1 p.2) →
          FnG l.prog w (K w.params) mg base k fa fd [x] (sp w))
    (hsp : ∀ (w : World) (H : Hp) (a : Addr) (ns : List Int),
      ns.length ≤ n → (∀ T ∈ Ts, H T = some (.tbl #[])) → SqL (K w.params) H a (ns.map V.int) →
      sp w [.ref a] H (fun v _ => v = .bl true) fun _ _ _ => False) :
    PySem.W.WalkO q loose XP YP l.row.toRowW d []
      (fun f vs => PySem.call f vs) := by
  refine Att.attach_call hn hdf ?_
  intro w s₀ s₁ mg mb fa o pm cd doc a vs ns G Y ho hd hcd hmg hobj hints hlen hg
  obtain ⟨KX, hT⟩ := hY w _ Y
  obtain ⟨fd, L, hC, hL, hb, hF⟩ := F w mg fa _ KX G.T.g hmg
  refine law_goesY2 KX G.T.g G.T.b G.T.builtins G.T.nolimit hg (L := L) (fun p hp => ⟨hT p.2 (hL ▸ List.mem_map.mpr ⟨p, hp, rfl⟩), (hC p hp).2, PySem.W.codeHd_of_K KX (hC p hp).1⟩) G.T.bmain hobj
    hints (Nat.le_trans hlen hn2) hr hF hb
    (fun H hO hS => hsp w H a ns hlen (fun T hT => ?_) hS)
  rw [← hL] at hT
  obtain ⟨p, hp, rfl⟩ := List.mem_map.mp hT
  exact hO p hp
end Vf

set_option Elab.async false
set_option linter.all false
set_option maxRecDepth 100000
set_option maxHeartbeats 4000000
/-! Own words: how much two rows begin alike; the least change between two texts. -/
namespace Vf
open PySem PySem.Spec PyProof.Rows L2
open TL (tl joinL tl_join join_eq)
/-- how many begin alike -/
def lcp : List Nat → List Nat → Nat
  | a :: x, b :: y => if a = b then lcp x y + 1 else 0
  | _, _ => 0
theorem lcp_le : ∀ x y : List Nat, lcp x y ≤ x.length ∧ lcp x y ≤ y.length
  | [], _ => ⟨Nat.zero_le _, Nat.zero_le _⟩
  | _ :: _, [] => ⟨Nat.zero_le _, Nat.zero_le _⟩
  | a :: x, b :: y => by
    have ih := lcp_le x y
    unfold lcp
    split
    · simp only [List.length_cons]
      omega
    · exact ⟨Nat.zero_le _, Nat.zero_le _⟩
/-- one turn of a count: there are i that are alike; the next is too, or not -/
theorem lcp_more {x y : List Nat} {i : Nat} (h : lcp x y = i + lcp (x.drop i) (y.drop i)) {a : Nat} (ex : x[i]? = some a) (ey : y[i]? = some a) : lcp x y = (i + 1) + lcp (x.drop (i + 1)) (y.drop (i + 1)) := by
  rw [drop_at ex, drop_at ey] at h
  have : lcp (a :: x.drop (i + 1)) (a :: y.drop (i + 1)) = lcp (x.drop (i + 1)) (y.drop (i + 1)) + 1 := if_pos rfl
  omega
theorem lcp_end {x y : List Nat} {i : Nat} (h : lcp x y = i + lcp (x.drop i) (y.drop i)) {a b : Nat} (ex : x[i]? = some a) (ey : y[i]? = some b) (ne : a ≠ b) : lcp x y = i := by
  rw [drop_at ex, drop_at ey] at h
  have : lcp (a :: x.drop (i + 1)) (b :: y.drop (i + 1)) = 0 := if_neg ne
  omega
theorem lcp_end' {x y : List Nat} {i : Nat} (h : lcp x y = i + lcp (x.drop i) (y.drop i)) (hi : ¬ (i < x.length ∧ i < y.length)) : lcp x y = i := by
  have a := (lcp_le (x.drop i) (y.drop i)).1
  have b := (lcp_le (x.drop i) (y.drop i)).2
  rw [List.length_drop] at a b
  omega
theorem lcp_take : ∀ (x y : List Nat) (i : Nat), i ≤ lcp x y → x.take i = y.take i
  | _, _, 0, _ => by simp
  | [], _, i + 1, h => absurd h (by simp [lcp])
  | _ :: _, [], i + 1, h => absurd h (by simp [lcp])
  | a :: x, b :: y, i + 1, h => by
    unfold lcp at h
    split at h
    · rename_i e
      rw [List.take_succ_cons, List.take_succ_cons, e, lcp_take x y i (by omega)]
    · omega
theorem take_lcp : ∀ (x y : List Nat) (i : Nat), i ≤ x.length → i ≤ y.length → x.take i = y.take i → i ≤ lcp x y
  | _, _, 0, _, _, _ => Nat.zero_le _
  | [], _, i + 1, h, _, _ => by simp at h
  | _ :: _, [], i + 1, _, h, _ => by simp at h
  | a :: x, b :: y, i + 1, h1, h2, h => by
    rw [List.take_succ_cons, List.take_succ_cons] at h
    obtain ⟨e, h⟩ := List.cons.inj h
    have := take_lcp x y i (by simpa using h1) (by simpa using h2) h
    unfold lcp
    rw [if_pos e]
    omega
/-- the begin of the least change, and how much is alike behind it -/
def begB (x y : List Nat) : Nat := lcp x y
def sameB (x y : List Nat) : Nat := lcp (x.drop (begB x y)).reverse (y.drop (begB x y)).reverse
theorem begB_le (x y : List Nat) : begB x y ≤ x.length ∧ begB x y ≤ y.length := lcp_le x y
theorem sameB_le (x y : List Nat) : begB x y + sameB x y ≤ x.length ∧ begB x y + sameB x y ≤ y.length := by
  have a := lcp_le (x.drop (begB x y)).reverse (y.drop (begB x y)).reverse
  have b := begB_le x y
  rw [List.length_reverse, List.length_reverse, List.length_drop, List.length_drop] at a
  unfold sameB
  omega
/-- b, e may be begin and end of a change that leads from x to y -/
def Leads (x y : List Nat) (b e : Nat) : Prop := b ≤ e ∧ e ≤ x.length ∧ b + (x.length - e) ≤ y.length ∧ x.take b = y.take b ∧ x.drop e = y.drop (y.length - (x.length - e))
theorem leads_beg {x y : List Nat} {b e : Nat} (h : Leads x y b e) : b ≤ begB x y := by
  obtain ⟨h1, h2, h3, h4, _⟩ := h
  exact take_lcp x y b (by omega) (by omega) h4
theorem rev_take_drop {x : List Nat} {b k : Nat} (h : b + k ≤ x.length) : (x.drop b).reverse.take k = (x.drop (x.length - k)).reverse := by
  rw [List.take_reverse, List.length_drop, List.drop_drop]
  congr 2
  omega
theorem leads_end {x y : List Nat} {e : Nat} (h : Leads x y (begB x y) e) : x.length - sameB x y ≤ e := by
  obtain ⟨h1, h2, h3, _, h5⟩ := h
  have := take_lcp (x.drop (begB x y)).reverse (y.drop (begB x y)).reverse (x.length - e) (by rw [List.length_reverse, List.length_drop]; omega) (by rw [List.length_reverse, List.length_drop]; omega) (by
    rw [rev_take_drop (by omega), rev_take_drop (by omega)]
    rw [show x.length - (x.length - e) = e by omega, h5])
  have : x.length - e ≤ sameB x y := this
  omega
theorem leads_all (x y : List Nat) : Leads x y (begB x y) (x.length - sameB x y) := by
  have a := begB_le x y
  have b := sameB_le x y
  refine ⟨by omega, by omega, by omega, lcp_take x y _ (Nat.le_refl _), ?_⟩
  have h := lcp_take (x.drop (begB x y)).reverse (y.drop (begB x y)).reverse (sameB x y) (Nat.le_refl _)
  rw [rev_take_drop (by omega), rev_take_drop (by omega)] at h
  rw [show x.length - (x.length - sameB x y) = sameB x y by omega]
  exact List.reverse_inj.mp h
theorem leads_whole (x y : List Nat) : Leads x y (begB x y) x.length := by
  have a := begB_le x y
  refine ⟨a.1, Nat.le_refl _, by omega, lcp_take x y _ (Nat.le_refl _), ?_⟩
  rw [Nat.sub_self, Nat.sub_zero, List.drop_length, List.drop_length]
end Vf

set_option Elab.async false
set_option linter.all false
set_option maxRecDepth 100000
set_option maxHeartbeats 4000000
/-! Own words: repr of a text too; a def whose lambdas' code is known; what tables and drawn bags keep. -/
namespace Vf
open PySem PySem.Spec PyProof.Rows L2
open LamX (CodeO TabS Tabs ExtN TabB)
/-- an object, or a text -/
def ShowV (v : V) : Prop := (∃ a, v = .ref a) ∨ ∃ x, v = .str x
theorem call_repr2 {X : Cx} (gd : X.A.guards = some []) (hu : X.A.units + 64 < cLine) :
    CallR X (.builtin "repr") (fun xs H Q => ∃ v d, xs = [v] ∧ ShowV v ∧ Dp X.K H v d ∧ OkD d ∧ Q (.str d.shown) H) := by
  intro pins s σ H xs us Q I r h
  obtain ⟨v, d, rfl, sv, hd, ok, q⟩ := h
  rcases sv with ⟨a, rfl⟩ | ⟨x, rfl⟩
  · exact call_repr gd hu pins s σ H [.ref a] us Q I r ⟨a, d, rfl, hd, ok, q⟩
  · cases hd
    cases r with
    | cons rv rn =>
      cases rn
      obtain ⟨t, rfl⟩ := rv
      exact PySem.P.repr_of_str ⟨.str _, H, I.tok _, ⟨_, rfl⟩, q⟩ ok.show
/-- two things alike, objects or texts -/
def spAlike2 (K : PySem.W.Frag) : Sp := fun vs H Q _ => ∃ (u v : V) (d : PyData), vs = [u, v] ∧ ShowV u ∧ ShowV v ∧ Dp K H u d ∧ Dp K H v d ∧ OkD d ∧ ∀ H', Same H H' → Q (.bl true) H'
/-- a def of the text whose code object stands at c -/
structure DefK (K : PySem.W.Frag) (mg : Str → Option Value) (x : Str) (st : Stmt) (ps : List Str) (c : Addr) : Prop where
  ex : ∃ (f : Addr) (oc : Value) (od an : Option Addr) (sl : Array (Option Value)) (kV dc pm ct : Value),
    K.lookup f = some ⟨oc, od, .func (PySem.W.fnOf x x (defArgs st) (defBody st) (defScope st) .none kV dc pm an (.ref c) ct), sl⟩ ∧
    PySem.W.codeIn K (.ref c) x = true ∧ PySem.W.keepIn K (.ref f) = true ∧ mg x = some (.ref f) ∧
    Binds K (PySem.W.fnOf x x (defArgs st) (defBody st) (defScope st) .none kV dc pm an (.ref c) ct) ps []
section
variable {P : Program} {w : World} {K : PySem.W.Frag} {mg : Str → Option Value} {base : Heap}
theorem fnG_ofK {x : Str} {st : Stmt} {f c : Addr} {oc : Value} {od an : Option Addr} {sl : Array (Option Value)} {kV dc pm ct : Value} {N ps : List Str} {k : Nat} {sp : Sp}
    (lk : K.lookup f = some ⟨oc, od, .func (PySem.W.fnOf x x (defArgs st) (defBody st) (defScope st) .none kV dc pm an (.ref c) ct), sl⟩) (hcd : PySem.W.codeIn K (.ref c) x = true) (S : FnScope N ps (defScope st))
    (many : ∀ vs H Q E, sp vs H Q E → vs.length = ps.length)
    (body : ∀ (A : Around) (outer : List Env) (s : Shared) (H : Hp) (vs : List V) (Q : VK) (E : XK),
      Room k (A.deeper (envOfC x (defScope st) s.heap.objs.size f (.ref c))) → A.guards = some [] → sp vs H Q E →
      ∃ t, PSs (cxOf CX0 P w K mg base N x (defScope st) f (.ref c) A outer s H E).nox (defBody st) t ∧ t { nx := fun _ H' => Q .non H', rt := Q } (start N vs) H) :
    FnG P w K mg base (k + 1) f (PySem.W.fnOf x x (defArgs st) (defBody st) (defScope st) .none kV dc pm an (.ref c) ct) ps sp := by
  refine ⟨many, fun A outer s H args us vs Q E hr hg e0 hb r hsp => ?_⟩
  have hlen := many _ _ _ _ hsp
  have KX : K.In s.heap := e0.mod.kin.keeps (fun b o e => (e0.bs b o e).1)
  have lim := e0.mod.nolimit.keeps (fun b o e => (e0.bs b o e).1)
  have kinds : ∀ y ∈ ps.zip us, (defScope st).names.lookup y.1 = some .local ∨
      ((defScope st).names.lookup y.1 = some .cell ∧ ((cellsFrom (s.heap.objs.size + 1) (defScope st).names []).lookup y.1).isSome = true) := by
    rintro ⟨n, v⟩ hy
    cases S.par n (List.of_mem_zip hy).1 with
    | inl q => exact .inl q
    | inr q => exact .inr ⟨q, PySem.W.cellsFrom_some _ _ _ (.inl q)⟩
  refine codeAny_call_function hr.depth (KX _ _ lk) rfl S.co S.gen rfl (PySem.W.codeRec_of KX hcd) (hb _ _ _ _ ?_)
  refine wpAny_newFunctionEnv_cells S.kind kinds (fun env he s1 x => ?_)
  subst he
  refine ⟨lim.keeps x.toInCall.keep, codeAny_func ?_⟩
  obtain ⟨t, ht, hq⟩ := body A outer s H vs Q E (hr.deeper _) hg hsp
  have I := inv_start (CX := CX0) (E := E) S hr.hd e0 hlen r x
  refine wpAny_mono (ht.nox.run [] s1 (start N vs) H _ I hq) (fun fl s' hs => ?_) (fun _ _ hs => hs)
  cases fl with
  | brk => exact (hs.choose_spec.choose_spec.2 : False).elim
  | cont => exact (hs.choose_spec.choose_spec.2 : False).elim
  | next =>
    obtain ⟨_, H', J, q⟩ := hs
    exact ⟨V.non, H', J.os, J.bare, J.base, J.hok, rfl, q⟩
  | ret u =>
    obtain ⟨v, _, H', J, rv, q⟩ := hs
    exact ⟨v, H', J.os, J.bare, J.base, J.hok, rv, q⟩
theorem calGOfK {x : Str} {st : Stmt} {N ps : List Str} {k : Nat} {sp : Sp} {c : Addr}
    (D : DefK K mg x st ps c) (S : FnScope N ps (defScope st)) (many : ∀ vs H Q E, sp vs H Q E → vs.length = ps.length)
    (body : ∀ (f : Addr) (A : Around) (outer : List Env) (s : Shared) (H : Hp) (vs : List V) (Q : VK) (E : XK),
      Room k (A.deeper (envOfC x (defScope st) s.heap.objs.size f (.ref c))) → A.guards = some [] → sp vs H Q E →
      ∃ t, PSs (cxOf CX0 P w K mg base N x (defScope st) f (.ref c) A outer s H E).nox (defBody st) t ∧ t { nx := fun _ H' => Q .non H', rt := Q } (start N vs) H) :
    CalG P w K mg base (k + 1) x sp := by
  obtain ⟨f, oc, od, an, sl, kV, dc, pm, ct, lk, hcd, kp, hm, hb⟩ := D.ex
  exact ⟨f, _, ps, fnG_ofK lk hcd S many (fun A o s H vs Q E hr h => body f A o s H vs Q E hr h), hm, kp, hb⟩
end
/-! ### what is kept where lambdas are made -/
section
variable {g : Bg} {H H1 H2 : Hp} {c e : Int} {T : List (Addr × Str)} {p : Addr} {o : HO}
theorem ExtN.tk' (x : ExtN H H1) : Tk H H1 := fun a xs h => x a _ h (fun ps z => by cases z)
theorem ExtN.lst (x : ExtN H H1) {a : Addr} {xs : List V} (h : H a = some (.lst xs)) : H1 a = some (.lst xs) := x a _ h (fun ps z => by cases z)
theorem Bag.ext (B : Bag H g c e) (x : ExtN H H1) : Bag H1 g c e := by
  obtain ⟨z, m, i, ns, h, h2, r⟩ := B.ex
  exact ⟨⟨z, m, i, ns, ExtN.lst x h, ExtN.lst x h2, r⟩, B.ne⟩
theorem Tabs.drawn (t : Tabs T H) (B : Bag H g c e) (D : Drawn g H H1 c e) : Tabs T H1 := fun q hq => by
  obtain ⟨ps, h, tri, k⟩ := t q hq
  obtain ⟨ob, hb⟩ := B.ob
  have keep : ∀ {a : Addr} {u : HO}, H a = some u → (∀ ys, u ≠ .lst ys) → H1 a = some u := fun {a u} ha n => D.fr a u (fun z => by
    rw [z, hb] at ha
    exact n _ (Option.some.inj ha).symm) ha
  refine ⟨ps, keep h (fun ys z => by cases z), tri, fun pos cv hc => ?_⟩
  obtain ⟨c1, e1, e2⟩ := k pos cv hc
  exact ⟨c1, e1, keep e2 (fun ys z => by unfold CodeO at z; cases z)⟩
theorem Tabs.same' (t : Tabs T H) (s : Same H H1) : Tabs T H1 := t.ext s
theorem Tabs.new' (t : Tabs T H) (n : H p = none) : Tabs T (upd H p o) := t.ext (same_new n)
end
end Vf

set_option Elab.async false
set_option linter.all false
set_option maxRecDepth 100000
set_option maxHeartbeats 4000000
/-! Own words: a text's signs in the other order; slices of texts as lists. -/
namespace Vf
open PySem PySem.Spec PyProof.Rows L2
open TL (tl)
def revS (x : Str) : Str := ⟨(tl x).reverse.toArray⟩
theorem tl_revS (x : Str) : tl (revS x) = (tl x).reverse := by
  show ((tl x).reverse.toArray).toList = _
  rw [List.toList_toArray]
theorem rev_is (x : Str) (u : Tok) : Txt.sliceBy x none none (-1, u) = revS x := by
  refine tl_inj ?_
  rw [tl_revS]
  refine (step_rev_list x u).trans ?_
  apply List.ext_getElem
  · simp [Str.length]
  · intro i h1 h2
    simp only [List.length_map, List.length_range] at h1
    have hs : x.length = x.cps.size := rfl
    have h3 : x.cps.size - 1 - i < x.cps.size := by
      rw [hs] at h1
      omega
    simp [List.getElem_reverse, Array.getD, hs, h3]
theorem pe_revS {X : Cx} {e : Expr} {te : TE} {k : Nat} {p1 p2 p3 pos : Pos} (he : PE X e te) :
    PE X (.Subscript e (.Slice none none (some (.UnaryOp .USub (.Constant (.int 1) k p1) p2)) p3) pos) (fun τ G Q => te τ G fun v G1 => ∃ z, v = .str z ∧ z.length ≤ sizeLine ∧ Q (.str (revS z)) G1) := by
  refine ⟨fun pins s τ G Q I h => Subscript_ (thn (he.run pins s τ G _ I h) fun u t ⟨v, G1, J, rv, z, ev, lz, q⟩ => ?_)⟩
  subst ev
  obtain ⟨tk, rfl⟩ := rv
  have step : PO X (some (.UnaryOp .USub (.Constant (.int 1) k p1) p2)) (tPart (tUn (rU fun i => .int (-i)) (tC (.int 1)))) := po_some (pe_un un_neg pe_int)
  refine wpAny_Slice (thn (po_none.run pins t τ G1 (fun o F => o = none ∧ F = G1) J ⟨rfl, rfl⟩) fun a t1 ⟨oa, F1, J1, pa, ea, fa⟩ => ?_)
  subst ea fa
  refine thn (po_none.run pins t1 τ F1 (fun o F => o = none ∧ F = F1) J1 ⟨rfl, rfl⟩) fun b t2 ⟨ob, F2, J2, pb, eb, fb⟩ => ?_
  subst eb fb
  refine thn (step.run pins t2 τ F2 (fun o F => o = some (-1) ∧ F = F2) J2 ⟨1, rfl, -1, rfl, rfl, rfl⟩) fun c t3 ⟨oc, F3, J3, pc, ec, fc⟩ => ?_
  subst ec fc
  obtain ⟨l, rfl, el⟩ := IsPart.raw pa
  obtain ⟨m, rfl, em⟩ := IsPart.raw pb
  obtain ⟨n, rfl, en⟩ := IsPart.raw pc
  obtain rfl : l = none := by cases l <;> simp at el <;> rfl
  obtain rfl : m = none := by cases m <;> simp at em <;> rfl
  obtain ⟨n1, rfl⟩ : ∃ n1, n = some (-1, n1) := by
    cases n with
    | none => simp at en
    | some q =>
      obtain ⟨i, w⟩ := q
      simp at en
      subst en
      exact ⟨w, rfl⟩
  have c0 : ¬ ((((some ((-1 : Int), n1)).map (·.1)).getD 1 == 1 && (slicePicked z none none (some (-1, n1))).length == z.length) = true) := by
    rw [show ((((some ((-1 : Int), n1)).map (·.1)).getD 1 == 1)) = false from rfl]
    simp
  have er := rev_is z n1
  unfold Txt.sliceBy at er
  rw [if_neg c0] at er
  have J4 : Inv X pins τ F3 { t3 with heap := t3.heap.push { cls := .type "slice", data := .fields #[partValue none, partValue none, partValue (some (-1, n1))] } } := J3.kept (t' := t3.toks) fun b ob w => Heap.get?_push_of_some _ w
  refine tail_any (ops := [.str z tk, .ref t3.heap.objs.size]) (typeIs_str _ _ _) PySem.F.slot_str_getitem.lookup ?_ (by with_unfolding_all rfl)
  refine wpAny_getItem_str_slice (l := none) (u := none) (st := some (-1, n1)) ⟨_, Heap.get?_push_size _ rfl, rfl, rfl⟩ rfl ?_
  unfold sliceMade
  rw [if_neg c0, er]
  have lr : (revS z).length ≤ sizeLine := by
    rw [str_len, tl_revS, List.length_reverse, ← str_len]
    exact lz
  exact ⟨lr, .str _, F3, J4.tok _, ⟨_, rfl⟩, q⟩
/-! ### slices as lists -/
theorem tl_cutS (z : Str) (lo hi : Option Int) : tl (cutS z lo hi) = ((tl z).drop (HT.sIx z.length 0 lo)).take (HT.sIx z.length z.length hi - HT.sIx z.length 0 lo) := by
  show (List.toArray _).toList = _
  rw [List.toList_toArray]
theorem sIx_nat (n d : Nat) {i : Nat} : HT.sIx n d (some (i : Int)) = min i n := by
  show (if (i : Int) < 0 then ((i : Int) + n).toNat else min (i : Int).toNat n) = _
  rw [if_neg (by omega)]
  rfl
theorem tl_from (z : Str) (i : Nat) : tl (cutS z (some (i : Int)) none) = (tl z).drop i := by
  rw [tl_cutS, sIx_nat]
  show ((tl z).drop (min i z.length)).take (z.length - min i z.length) = _
  rw [str_len]
  by_cases h : i ≤ (tl z).length
  · rw [Nat.min_eq_left h]
    exact List.take_of_length_le (by rw [List.length_drop]; omega)
  · rw [Nat.min_eq_right (by omega), List.drop_of_length_le (by omega), List.drop_of_length_le (by omega)]
    simp
theorem tl_upto (z : Str) (i : Nat) : tl (cutS z none (some (i : Int))) = (tl z).take i := by
  rw [tl_cutS, sIx_nat]
  show ((tl z).drop 0).take (min i z.length - 0) = _
  rw [str_len, List.drop_zero, Nat.sub_zero]
  by_cases h : i ≤ (tl z).length
  · rw [Nat.min_eq_left h]
  · rw [Nat.min_eq_right (by omega), List.take_of_length_le (by omega), List.take_of_length_le (by omega)]
theorem tl_part (z : Str) (i j : Nat) (hj : j ≤ z.length) : tl (cutS z (some (i : Int)) (some (j : Int))) = ((tl z).take j).drop i := by
  rw [tl_cutS, sIx_nat, sIx_nat]
  rw [str_len] at hj ⊢
  rw [Nat.min_eq_left hj, List.drop_take]
  by_cases h : i ≤ (tl z).length
  · rw [Nat.min_eq_left h]
  · rw [Nat.min_eq_right (by omega), List.drop_of_length_le (by omega), List.drop_of_length_le (by omega)]
    simp
end Vf

set_option Elab.async false
set_option linter.all false
set_option maxRecDepth 100000
set_option maxHeartbeats 4000000
namespace Lw
open PySem PySem.Spec PyProof.Rows L2 Vf
open C8 (Cal pe_c pe_gc CalAt)
def topS (i : Nat) : Stmt := PySem.Challenge.pw_leastlaid_k60_texts_changed.main.body.getD i (.Pass ⟨0, 0, 0, 0⟩)
abbrev s_p_changed : Stmt := topS 4
theorem sc_p_changed : FnScope ["text", "change", "begin", "end", "string"] ["text", "change"] (defScope s_p_changed) := ⟨rfl, rfl, rfl, by decide +kernel, rfl, by decide +kernel, by decide +kernel⟩
abbrev s_p_changed_by : Stmt := topS 5
theorem sc_p_changed_by : FnScope ["text", "changes", "found", "change"] ["text", "changes"] (defScope s_p_changed_by) := ⟨rfl, rfl, rfl, by decide +kernel, rfl, by decide +kernel, by decide +kernel⟩
abbrev s_p_same_begin : Stmt := topS 6
theorem sc_p_same_begin : FnScope ["one", "other", "many"] ["one", "other"] (defScope s_p_same_begin) := ⟨rfl, rfl, rfl, by decide +kernel, rfl, by decide +kernel, by decide +kernel⟩
abbrev s_p_change_between : Stmt := topS 7
theorem sc_p_change_between : FnScope ["one", "other", "begin", "same"] ["one", "other"] (defScope s_p_change_between) := ⟨rfl, rfl, rfl, by decide +kernel, rfl, by decide +kernel, by decide +kernel⟩
abbrev s_p_back_of : Stmt := topS 8
theorem sc_p_back_of : FnScope ["text", "change", "begin", "end", "string"] ["text", "change"] (defScope s_p_back_of) := ⟨rfl, rfl, rfl, by decide +kernel, rfl, by decide +kernel, by decide +kernel⟩
abbrev s_l_bag : Stmt := topS 10
theorem sc_l_bag : FnScope ["_law_script", "_law_cell"] ["_law_script"] (defScope s_l_bag) := ⟨rfl, rfl, rfl, by decide +kernel, rfl, by decide +kernel, by decide +kernel⟩
abbrev s_l_take : Stmt := topS 11
theorem sc_l_take : FnScope ["_law_bag_here", "_law_many", "_law_cell", "_law_stirred", "_law_value", "_law_begin", "_law_second"] ["_law_bag_here", "_law_many"] (defScope s_l_take) := ⟨rfl, rfl, rfl, by decide +kernel, rfl, by decide +kernel, by decide +kernel⟩
abbrev s_l_one : Stmt := topS 12
theorem sc_l_one : FnScope ["_law_bag_here", "_law_things"] ["_law_bag_here", "_law_things"] (defScope s_l_one) := ⟨rfl, rfl, rfl, by decide +kernel, rfl, by decide +kernel, by decide +kernel⟩
abbrev s_l_alike : Stmt := topS 13
theorem sc_l_alike : FnScope ["_law_found", "_law_due"] ["_law_found", "_law_due"] (defScope s_l_alike) := ⟨rfl, rfl, rfl, by decide +kernel, rfl, by decide +kernel, by decide +kernel⟩
abbrev s_l_changed : Stmt := topS 14
theorem sc_l_changed : FnScope ["_law_text", "_law_change"] ["_law_text", "_law_change"] (defScope s_l_changed) := ⟨rfl, rfl, rfl, by decide +kernel, rfl, by decide +kernel, by decide +kernel⟩
abbrev s_l_change_between : Stmt := topS 15
theorem sc_l_change_between : FnScope ["_law_one_here", "_law_other", "_law_begin", "_law_end"] ["_law_one_here", "_law_other"] (defScope s_l_change_between) := ⟨rfl, rfl, rfl, by decide +kernel, rfl, by decide +kernel, by decide +kernel⟩
abbrev s_l_heard : Stmt := topS 16
theorem sc_l_heard : FnScope ["_law_act", "e"] ["_law_act"] (defScope s_l_heard) := ⟨rfl, rfl, rfl, by decide +kernel, rfl, by decide +kernel, by decide +kernel⟩
abbrev s_l_drawn_change : Stmt := topS 17
theorem sc_l_drawn_change : FnScope ["_law_bag_here", "_law_many", "_law_begin", "_law_end"] ["_law_bag_here", "_law_many"] (defScope s_l_drawn_change) := ⟨rfl, rfl, rfl, by decide +kernel, rfl, by decide +kernel, by decide +kernel⟩
abbrev s_l_rows_right : Stmt := topS 18
theorem sc_l_rows_right : FnScope ["_law_bag_here", "_law_text", "_law_row", "_law_due", "_law_turn", "_law_change", "_law_shown", "_law_given"] ["_law_bag_here", "_law_text"] (defScope s_l_rows_right) := ⟨rfl, rfl, rfl, by decide +kernel, rfl, by decide +kernel, by decide +kernel⟩
abbrev s_l_all_between : Stmt := topS 19
theorem sc_l_all_between : FnScope ["_law_one_here", "_law_other", "_law_found", "_law_begin", "_law_end", "_law_size"] ["_law_one_here", "_law_other"] (defScope s_l_all_between) := ⟨rfl, rfl, rfl, by decide +kernel, rfl, by decide +kernel, by decide +kernel⟩
abbrev s_p_law : Stmt := topS 20
theorem sc_p_law : FnScope ["_law_script", "_law_bag_here", "_law_turn", "_law_due", "_law_back", "_law_signs", "_law_one_here", "_law_other", "_law_some", "_law_told", "_law_begin", "_law_end", "_law_change", "_law_text", "_law_k", "_law_place"] ["_law_script"] (defScope s_p_law) := ⟨rfl, rfl, rfl, by decide +kernel, rfl, by decide +kernel, by decide +kernel⟩
structure Txt (K : PySem.W.Frag) (mg : Str → Option Value) (w : World) : Prop where
  d_p_changed : DefIn K mg "changed" s_p_changed ["text", "change"]
  d_p_changed_by : DefIn K mg "changed_by" s_p_changed_by ["text", "changes"]
  d_p_same_begin : DefIn K mg "_same_begin" s_p_same_begin ["one", "other"]
  d_p_change_between : DefIn K mg "change_between" s_p_change_between ["one", "other"]
  d_p_back_of : DefIn K mg "back_of" s_p_back_of ["text", "change"]
  d_l_bag : DefIn K mg "_law_bag" s_l_bag ["_law_script"]
  d_l_take : DefIn K mg "_law_take" s_l_take ["_law_bag_here", "_law_many"]
  d_l_one : DefIn K mg "_law_one" s_l_one ["_law_bag_here", "_law_things"]
  d_l_alike : DefIn K mg "_law_alike" s_l_alike ["_law_found", "_law_due"]
  d_l_changed : DefIn K mg "_law_changed" s_l_changed ["_law_text", "_law_change"]
  d_l_change_between : DefIn K mg "_law_change_between" s_l_change_between ["_law_one_here", "_law_other"]
  d_l_heard : DefIn K mg "_law_heard" s_l_heard ["_law_act"]
  d_l_drawn_change : DefIn K mg "_law_drawn_change" s_l_drawn_change ["_law_bag_here", "_law_many"]
  d_l_rows_right : DefIn K mg "_law_rows_right" s_l_rows_right ["_law_bag_here", "_law_text"]
  d_l_all_between : DefIn K mg "_law_all_between" s_l_all_between ["_law_one_here", "_law_other"]
  d_p_law : DefIn K mg "law" s_p_law ["_law_script"]
  n_abs : mg "abs" = none
  n_int : mg "int" = none
  n_len : mg "len" = none
  n_range : mg "range" = none
  n_min : mg "min" = none
  n_max : mg "max" = none
  n_repr : mg "repr" = none
  n_tuple : mg "tuple" = none
section
variable {P : Program} {w : World} {K : PySem.W.Frag} {mg : Str → Option Value} {base : Heap}

/-! the side of an operation; one step of a reading -/
local macro_rules | `(tactic| walk_at "side") => `(tactic| first
  | (show CMul _ _; first | exact Or.inr (by decide) | exact Or.inl (by decide) | (refine Or.inl ⟨?_, ?_⟩ <;> omega) | (refine Or.inr ⟨?_, ?_⟩ <;> omega))
  | (show CDivN _ _; refine ⟨?_, ?_⟩ <;> omega)
  | (show CPow _ _; exact ⟨by decide, by decide, by decide⟩)
  | (show (0 : Int) < _; first | decide | assumption | omega))
local macro_rules | `(tactic| walk_at "rd1") => `(tactic| first
  | refine ⟨_, _, rfl, rfl, (by walk_at "side"), ?_⟩
  | refine ⟨_, rfl, ?_⟩
  | refine ⟨_, _, rfl, rfl, ?_⟩
  | refine ⟨rfl, ?_⟩
  | refine .inl ⟨_, rfl, ?_⟩
  | refine ⟨_, _, _, _, rfl, rfl, SqL.of (by first | assumption | exact upd_same), atI_nat (j := _) rfl, ?_⟩
  | refine ⟨_, _, _, _, rfl, rfl, (by first | assumption | exact upd_same), rfl, ?_⟩)
local macro_rules | `(tactic| walk_at "rd") => `(tactic| repeat (walk_at "rd1"))

theorem cut_head (ns : List Int) (nn : ∀ n ∈ ns, (0 : Int) ≤ n) (i : Option Int) : ∃ x : Int, 0 ≤ x ∧ (cutV (ns.map V.int) i none ++ [V.int 0])[0]? = some (.int x) := by
  have hm : ∀ v ∈ cutV (ns.map V.int) i none, ∃ x : Int, 0 ≤ x ∧ v = .int x := fun v hv => by
    have h1 : v ∈ ns.map V.int := List.mem_of_mem_drop (List.mem_of_mem_take hv)
    obtain ⟨x, hx, rfl⟩ := List.mem_map.mp h1
    exact ⟨x, nn x hx, rfl⟩
  cases e : cutV (ns.map V.int) i none with
  | nil => exact ⟨0, by decide, rfl⟩
  | cons v r =>
    obtain ⟨x, h0, rfl⟩ := hm v (by rw [e]; exact List.mem_cons_self ..)
    exact ⟨x, h0, rfl⟩
theorem cut_size (ns : List Int) (nl : ns.length ≤ 63) (i : Option Int) : (cutV (ns.map V.int) i none).length + [V.int 0].length ≤ sizeLine := by
  have h := cutV_length (ns.map V.int) i none
  rw [List.length_map] at h
  exact Nat.le_trans (Nat.add_le_add_right (Nat.le_trans h nl) 1) (by decide)
theorem c_l_take (T : Txt K mg w) : Cal P w K mg base 1 "_law_take" spTake [] := by
  refine calOf T.d_l_take sc_l_take (fun vs H Q E h => ?_) (fun f cdv A outer s H vs Q E hr h => ?_)
  · obtain ⟨g, n, c, e, rfl, _⟩ := h
    rfl
  · obtain ⟨g, n, c, e, rfl, B, n0, n1, k⟩ := h
    have hLb := B.ne
    obtain ⟨z, m, i, ns, hb, hL, z0, m0, m1, i0, nn, nl⟩ := B.ex
    refine ⟨_,
      (Evl.pss_cut (ps_if (pt_cmpR op_eq (pe_ix ix_list (pv 0) pe_int (fun _ _ => rfl)) pe_int (nomark _))
        (pss_cons (ps_set (i := 2) sc_l_take.nd rfl (Or.inl rfl) (pe_ix ix_list (pe_op op_cat (pe_slice sl_list (pe_ix ix_list (pv 0) pe_int (fun _ _ => rfl)) (po_some (pe_ix ix_list (pv 0) pe_int (fun _ _ => rfl))) po_none) (pe_lst (pa_cons pe_int pa_nil))) pe_int (fun _ _ => rfl)))
        (pss_cons (ps_augS (pv 0) pe_int get_list pe_int ip_add set_list)
        (pss_cons (ps_if (pt_cmpR op_ge (pv 2) (pe_op op_pow pe_int pe_int) (nomark _))
        (pss_one (ps_asg (pv 2) (pg_sub (pv 0) pe_int set_list)))
        pss_nil)
        (pss_cons (ps_set (i := 3) sc_l_take.nd rfl (Or.inl rfl) (pe_op op_add (pe_op op_add (pe_op op_mul (pe_ix ix_list (pv 0) pe_int (fun _ _ => rfl)) pe_int) (pe_op op_mod (pe_callTy call_int1 (by rfl) T.n_int (by decide +kernel) (pa_cons (pv 2) pa_nil)) pe_int)) (pe_op op_mul pe_int (pe_ix ix_list (pv 0) pe_int (fun _ _ => rfl)))))
        (pss_one (ps_asg (pe_op op_mod (pe_callTy call_int1 (by rfl) T.n_int (by decide +kernel) (pa_cons (pv 3) pa_nil)) pe_int) (pg_sub (pv 0) pe_int set_list)))))))
        pss_nil)
        (pss_cons (ps_if (pt_cmpR op_gt (pe_ix ix_list (pv 0) pe_int (fun _ _ => rfl)) pe_int (nomark _))
        (pss_cons (ps_set (i := 4) sc_l_take.nd rfl (Or.inl rfl) (pe_op op_mod (pe_callTy call_int1 (by rfl) T.n_int (by decide +kernel) (pa_cons (pe_ix ix_list (pv 0) pe_int (fun _ _ => rfl)) pa_nil)) (pv 1)))
        (pss_cons (ps_asg (pe_op op_fdivN (pe_callTy call_int1 (by rfl) T.n_int (by decide +kernel) (pa_cons (pe_ix ix_list (pv 0) pe_int (fun _ _ => rfl)) pa_nil)) (pv 1)) (pg_sub (pv 0) pe_int set_list))
        (pss_one (ps_ret (pv 4)))))
        pss_nil)
        (pss_cons (ps_set (i := 5) sc_l_take.nd rfl (Or.inl rfl) (pe_op op_mod (pe_callTy call_int1 (by rfl) T.n_int (by decide +kernel) (pa_cons (pe_op op_mul (pe_op op_add (pe_ix ix_list (pv 0) pe_int (fun _ _ => rfl)) pe_int) pe_int) pa_nil)) pe_int))
        (pss_cons (ps_set (i := 6) sc_l_take.nd rfl (Or.inl rfl) (pe_op op_mod (pe_callTy call_int1 (by rfl) T.n_int (by decide +kernel) (pa_cons (pe_op op_mul (pe_op op_mod (pe_callTy call_int1 (by rfl) T.n_int (by decide +kernel) (pa_cons (pe_op op_mul (pv 5) (pv 5)) pa_nil)) pe_int) pe_int) pa_nil)) pe_int))
        (pss_one (ps_ret (pe_op op_mod (pe_callTy call_int1 (by rfl) T.n_int (by decide +kernel) (pa_cons (pe_op op_fdivN (pv 6) pe_int) pa_nil)) (pv 1))))))))
      , ?_⟩
    refine ⟨fun σ' H' => ∃ (z1 m1 i1 : Int) (v2 v3 : Option V), σ' = [some (.ref g.b), some (.int n), v2, v3, none, none, none] ∧ Fr g.b H H' ∧
        H' g.b = some (.lst [.int z1, .int m1, .int i1, .ref g.L, .int c, .int e]) ∧ 0 ≤ z1 ∧ 0 ≤ m1 ∧ m1 < 2147483647 ∧ 0 ≤ i1, ?_, ?_⟩
    · walk_at "rd"
      refine ite2 (fun h1 => ?_) (fun h1 => ?_)
      · walk_at "rd"
        refine ⟨_, _, rfl, SqL.of hL, fun p hp => ⟨(by decide), fun q hq => ⟨_, _, _, _, rfl, rfl, upd_some upd_same hq, upd_same, cut_size ns nl _, fun r hr => ?_⟩⟩⟩
        obtain ⟨x, x0, hx⟩ := cut_head ns nn (some i)
        refine ⟨_, _, _, _, rfl, rfl, SqL.of upd_same, atI_nat (j := 0) hx, ?_⟩
        have hb3 := upd_some (u := .lst (cutV (ns.map V.int) (some i) none ++ [.int 0])) (upd_some (u := .lst [.int 0]) (upd_some (u := .lst (cutV (ns.map V.int) (some i) none)) hb hp) hq) hr
        have fr3 : Fr g.b H _ := (((Fr.refl g.b H).new (o := .lst (cutV (ns.map V.int) (some i) none)) hp).new (o := .lst [.int 0]) hq).new (o := .lst (cutV (ns.map V.int) (some i) none ++ [.int 0])) hr
        generalize upd (upd (upd H p _) q _) r _ = H3 at hb3 fr3 ⊢
        -- bag[2] += 1
        walk_at "rd"
        have fr4 : ∀ o1 o2 : HO, Fr g.b H (upd (upd H3 g.b o1) g.b o2) := fun o1 o2 => fr3.at.at
        have md : ∀ y : Int, 0 ≤ y % 2147483647 ∧ y % 2147483647 < 2147483647 := fun y => ⟨Int.emod_nonneg _ (by decide), Int.emod_lt_of_pos _ (by decide)⟩
        refine ite2 (fun h2 => ?_) (fun h2 => ?_)
        · walk_at "rd"
          exact ⟨x, _, i + 1, _, _, rfl, fr3.at.at.at, upd_same, x0, (md _).1, (md _).2, by omega⟩
        · walk_at "rd"
          exact ⟨z, _, i + 1, _, _, rfl, fr3.at.at, upd_same, z0, (md _).1, (md _).2, by omega⟩
      · exact ⟨z, m, i, none, none, rfl, .refl _ _, hb, z0, m0, m1, i0⟩
    · rintro σ' H' ⟨z1, m1, i1, v2, v3, rfl, fr, hb1, z0, m0, mL, i0⟩
      have hn : ∀ y : Int, 0 ≤ y % n ∧ y % n < n := fun y => ⟨Int.emod_nonneg _ (by omega), Int.emod_lt_of_pos _ n0⟩
      walk_at "rd"
      refine ite2 (fun h1 => ?_) (fun h1 => ?_)
      · walk_at "rd"
        refine k _ _ (hn _).1 (hn _).2 (Drawn.mk' B ⟨⟨_, m1, i1, ns, upd_same, by rw [upd_ne hLb]; exact fr _ _ hLb hL, Int.fdiv_nonneg z0 (Int.le_of_lt n0), m0, mL, i0, nn, nl⟩, hLb⟩ fr.at)
      · walk_at "rd"
        exact k _ _ (hn _).1 (hn _).2 (Drawn.mk' B ⟨⟨z1, m1, i1, ns, hb1, fr _ _ hLb hL, z0, m0, mL, i0, nn, nl⟩, hLb⟩ fr)

theorem c_l_one (T : Txt K mg w) (c_l_take : Cal P w K mg base 1 "_law_take" spTake []) : Cal P w K mg base 2 "_law_one" (spOne K) [] := by
  refine calOf T.d_l_one sc_l_one (fun vs H Q E h => ?_) (fun f cdv A outer s H vs Q E hr h => ?_)
  · obtain ⟨g, x, c, e, rfl, _⟩ := h
    rfl
  · obtain ⟨g, x, c, e, rfl, B, h⟩ := h
    refine ⟨_,
      (pss_one (ps_ret (pe_ix ix_seq (pv 1) (pe_c c_l_take hr (by first | decide | omega) rfl (pa_cons (pv 0) (pa_cons (pe_callB call_len (by rfl) T.n_len PySem.boot_len (pa_cons (pv 1) pa_nil)) pa_nil))) (fun _ _ => rfl))))
      , ?_⟩
    rcases h with ⟨p, xs, rfl, hq, pb, h0, h1, k⟩ | ⟨z, rfl, h0, h1, k⟩
    · refine ⟨_, rfl, _, rfl, _, rfl, _, xs.length, rfl, hq.elim (fun q => .inl ⟨_, q, rfl⟩) (fun q => .inr ⟨_, q, rfl⟩), g, xs.length, c, e, rfl, B, by omega, by omega, fun r H' r0 r1 D => ?_⟩
      obtain ⟨v, hv, ha⟩ := at_of r0 r1
      rcases hq with q | q
      · exact .inl ⟨_, _, _, _, rfl, rfl, D.seqL pb q, ha, k v H' hv D⟩
      · exact .inr (.inl ⟨_, _, _, _, rfl, rfl, D.seqT pb q, ha, k v H' hv D⟩)
    · have hz : z.length ≤ sizeLine := Nat.le_trans (Nat.le_of_lt h1) (by decide)
      refine ⟨_, rfl, _, rfl, _, rfl, _, z.length, rfl, ⟨hz, rfl⟩, g, z.length, c, e, rfl, B, by omega, by omega, fun r H' r0 r1 D => ?_⟩
      obtain ⟨v, hv, ha⟩ := at_of (xs := z.cps.toList) r0 (by simpa [Str.length] using r1)
      exact .inr (.inr ⟨_, _, _, rfl, rfl, hz, ha, k v H' hv D⟩)

theorem c_l_alike (T : Txt K mg w) : CalG P w K mg base 1 "_law_alike" (spAlike2 K) := by
  refine calGOf T.d_l_alike sc_l_alike (fun vs H Q E h => ?_) (fun f cdv A outer s H vs Q E hr gd h => ?_)
  · obtain ⟨u, v, d, rfl, _⟩ := h
    rfl
  · obtain ⟨u, v, d, rfl, su, sv, hu', hv, ok, k⟩ := h
    have hu := hr.units
    refine ⟨_,
      (pss_one (ps_ret (pe_and (pe_cmpR (op_eqD hr.units) (pv 0) (pv 1) (nomark _)) (pe_one (pe_cmpR op_eq (pe_callB (call_repr2 gd hu) (by rfl) T.n_repr (by decide +kernel) (pa_cons (pv 0) pa_nil)) (pe_callB (call_repr2 gd hu) (by rfl) T.n_repr (by decide +kernel) (pa_cons (pv 1) pa_nil)) (nomark _))))))
      , ?_⟩
    refine ⟨_, rfl, _, rfl, d, d, hu', hv, ok.shaped, ok.shaped, _, rfl, ?_⟩
    rw [ok.refl]
    refine iteT ?_
    refine ⟨_, rfl, u, d, rfl, su, hu', ok, _, rfl, v, d, rfl, sv, hv, ok, rfl, ?_⟩
    rw [decide_eq_true rfl]
    exact k H (Same.refl H)

def spBag (K : PySem.W.Frag) : Sp := fun vs H Q _ => ∃ (a : Addr) (ns : List Int), vs = [.ref a] ∧ SqL K H a (ns.map V.int) ∧ ns.length ≤ 63 ∧ ∀ (g : Bg) (H' : Hp), Same H H' → Bag H' g 0 0 → Q (.ref g.b) H'
theorem cut_ints (ns : List Int) (lo hi : Option Int) : ∃ ms : List Int, cutV (ns.map V.int) lo hi = ms.map V.int ∧ ms.length ≤ ns.length := by
  refine ⟨(ns.drop (HT.sIx (ns.map V.int).length 0 lo)).take (HT.sIx (ns.map V.int).length (ns.map V.int).length hi - HT.sIx (ns.map V.int).length 0 lo), ?_, ?_⟩
  · unfold cutV
    rw [List.map_take, List.map_drop]
  · rw [List.length_take, List.length_drop]
    omega
theorem c_l_bag (T : Txt K mg w) : Cal P w K mg base 1 "_law_bag" (spBag K) [] := by
  refine calOf T.d_l_bag sc_l_bag (fun vs H Q E h => ?_) (fun f cdv A outer s H vs Q E hr h => ?_)
  · obtain ⟨a, ns, rfl, _⟩ := h
    rfl
  · obtain ⟨a, ns, rfl, hq, hl, k⟩ := h
    refine ⟨_,
      (pss_one (ps_ret (pe_lst (pa_cons pe_int (pa_cons pe_int (pa_cons pe_int (pa_cons (pe_lc (own := [("_law_cell", 1)]) (g := gName 1) (tt := tYes) rfl sc_l_bag.nd (pi_list (pe_slice sl_list (pv 0) po_none (po_some pe_int))) (blkOk_by (N := ["_law_script", "_law_cell"]) (sc := defScope s_l_bag) (by decide +kernel)) (fun _ _ _ _ _ => pg_name (i := 1) sc_l_bag.nd rfl (Or.inl rfl)) (fun _ _ _ _ _ => pts_nil) (fun _ _ _ _ _ => (pe_callB call_abs (by rfl) T.n_abs (by decide +kernel) (pa_cons (pv 1) pa_nil)))) (pa_cons pe_int (pa_cons pe_int pa_nil)))))))))
      , ?_⟩
    obtain ⟨ms, em, lm⟩ := cut_ints ns none (some 63)
    refine ⟨_, rfl, _, rfl, a, _, rfl, hq, fun p hp => ?_⟩
    rw [em]
    refine ⟨p, rfl, ⟨_, SqL.of upd_same⟩, fun D hD => ?_⟩
    have ap : upd H p (.lst (ms.map V.int)) p = some (.lst (ms.map V.int)) := upd_same
    have s1 : Same H (upd H p (.lst (ms.map V.int))) := same_new hp
    generalize upd H p (HO.lst (ms.map V.int)) = H1 at ap s1 hD ⊢
    refine lc_list (K := K) (a := p) (xs := ms.map V.int) (fun i H' => H' D = some (.lst (((ms.take i).map fun n => if n < 0 then -n else n).map V.int)) ∧ Same H1 H') ⟨upd_same, same_put (Same.refl _) hD⟩ (fun i H' _ ⟨_, s2⟩ => SqL.of (s2 _ _ ap)) ?_ ?_
    · rintro i y H' hi ⟨hd, s2⟩
      rw [List.getElem?_map] at hi
      obtain ⟨n, hn, rfl⟩ := Option.map_eq_some_iff.mp hi
      have li := (List.getElem?_eq_some_iff.mp hn).1
      refine ⟨rfl, _, rfl, n, rfl, _, hd, ?_, ?_, same_put s2 hD⟩
      · rw [List.length_map, List.length_map, List.length_take]
        exact Nat.lt_of_le_of_lt (Nat.min_le_left _ _) (Nat.lt_of_lt_of_le (show i < 100 by omega) (by decide))
      · rw [upd_same, List.take_add_one, hn, List.map_append, List.map_append]
        rfl
    · rintro H2 ⟨hd, s2⟩
      rw [List.length_map, List.take_length] at hd
      refine ⟨by show 6 ≤ sizeLine; decide, fun b hb => ?_⟩
      refine k ⟨b, D⟩ _ ((s1.trans s2).trans (same_new hb)) ⟨⟨0, 1234567891, 0, ms.map fun n => if n < 0 then -n else n, upd_same, upd_some hd hb, by decide, by decide, by decide, by decide, ?_, ?_⟩, ?_⟩
      · intro n hn
        obtain ⟨x, _, rfl⟩ := List.mem_map.mp hn
        show 0 ≤ if x < 0 then -x else x
        split <;> omega
      · rw [List.length_map]
        omega
      · exact ne_of_none hd hb

/-- what a change makes of a text -/
def chg (t : Str) (c : Ch) : Str := cutS t none (some c.b) ++ c.s ++ cutS t (some c.e) none
/-- a text and a change of it, not too large -/
structure Fit (t : Str) (c : Ch) : Prop where
  t : t.length ≤ 2000
  ok : ChOk c
def spChX (C : Addr) : Sp := fun vs H Q E => ∃ (t : Str) (q : Addr) (c : Ch), vs = [.str t, .ref q] ∧ H q = some (.tup [.int c.b, .int c.e, .str c.s]) ∧ Fit t c ∧
  ((t.length : Int) < c.e → ∀ d H', Same H H' → H' d = some (.xd [(("change" : Str), .ref q)]) → E (.ref C) (some d) H') ∧
  (¬ (t.length : Int) < c.e → Q (.str (chg t c)) H)
theorem chg_len {t : Str} {c : Ch} (h : Fit t c) : (cutS t none (some c.b)).length + c.s.length ≤ 2100 ∧ (cutS t none (some c.b) ++ c.s).length + (cutS t (some c.e) none).length ≤ 4100 := by
  have a := cutS_length t none (some c.b)
  have b := cutS_length t (some c.e) none
  have l : (cutS t none (some c.b) ++ c.s).length = (cutS t none (some c.b)).length + c.s.length := Str.length_append _ _
  obtain ⟨h1, h2⟩ := h
  have := h2.s
  omega
theorem c_p_changed {C : Addr} (T : Txt K mg w) (x_NoChange : XcR P w K mg base "NoChange" "change" C) : CalX P w K mg base 3 "changed" ["text", "change"] (spChX C) := by
  refine calXOf T.d_p_changed sc_p_changed (fun vs H Q E h => ?_) (fun f cdv A outer s H vs Q E hr h => ?_)
  · obtain ⟨t, q, c, rfl, _⟩ := h
    rfl
  · obtain ⟨t, q, c, rfl, hq, ft, kx, kq⟩ := h
    have lz : t.length ≤ sizeLine := Nat.le_trans ft.t (by decide)
    obtain ⟨l1, l2⟩ := chg_len ft
    refine ⟨_,
      (pss_cons (ps_asg (pv 1) (pg_tup rfl (pgs_cons (pg_name (i := 2) sc_p_changed.nd rfl (Or.inl rfl)) (pgs_cons (pg_name (i := 3) sc_p_changed.nd rfl (Or.inl rfl)) (pgs_cons (pg_name (i := 4) sc_p_changed.nd rfl (Or.inl rfl)) pgs_nil)))))
        (pss_cons (ps_if (pt_cmpR op_gt (pv 3) (pe_callB call_len (by rfl) T.n_len PySem.boot_len (pa_cons (pv 0) pa_nil)) (nomark _))
        (pss_one (ps_raiseX rfl (x_NoChange) hr (by decide) (takes_of rfl rfl rfl rfl) (pa_cons (pv 1) pa_nil)))
        pss_nil)
        (pss_one (ps_ret (pe_op op_add_str (pe_op op_add_str (pe_slice sl_str (pv 0) po_none (po_some (pv 2))) (pv 4)) (pe_slice sl_str (pv 0) (po_some (pv 3)) po_none))))))
      , ?_⟩
    refine ⟨_, rfl, q, _, rfl, SqT.of hq, rfl, _, _, rfl, _, _, rfl, _, _, rfl, rfl, ?_⟩
    refine ⟨_, rfl, _, rfl, _, t.length, rfl, ⟨lz, rfl⟩, _, _, rfl, rfl, _, rfl, ?_⟩
    refine ite2 (fun h1 => ?_) (fun h1 => ?_)
    · exact ⟨_, rfl, raiseX_in fun d H2 s2 _ h2 => kx (of_decide_eq_true h1) d H2 s2 h2⟩
    · refine ⟨_, rfl, _, rfl, _, rfl, _, rfl, lz, _, rfl, _, _, rfl, rfl, Nat.le_trans l1 (by decide), _, rfl, _, rfl, _, rfl, _, rfl, lz, _, _, rfl, rfl, Nat.le_trans l2 (by decide), ?_⟩
      exact kq fun z => h1 (decide_eq_true z)
def spChL : Sp := fun vs H Q _ => ∃ (t : Str) (q : Addr) (c : Ch), vs = [.str t, .ref q] ∧ H q = some (.tup [.int c.b, .int c.e, .str c.s]) ∧ Fit t c ∧ Q (.str (chg t c)) H
theorem c_l_changed (T : Txt K mg w) : Cal P w K mg base 1 "_law_changed" spChL [] := by
  refine calOf T.d_l_changed sc_l_changed (fun vs H Q E h => ?_) (fun f cdv A outer s H vs Q E hr h => ?_)
  · obtain ⟨t, q, c, rfl, _⟩ := h
    rfl
  · obtain ⟨t, q, c, rfl, hq, ft, kq⟩ := h
    have lz : t.length ≤ sizeLine := Nat.le_trans ft.t (by decide)
    obtain ⟨l1, l2⟩ := chg_len ft
    refine ⟨_,
      (pss_one (ps_ret (pe_op op_add_str (pe_op op_add_str (pe_slice sl_str (pv 0) po_none (po_some (pe_ix ix_tup (pv 1) pe_int (fun _ _ => rfl)))) (pe_ix ix_tup (pv 1) pe_int (fun _ _ => rfl))) (pe_slice sl_str (pv 0) (po_some (pe_ix ix_tup (pv 1) pe_int (fun _ _ => rfl))) po_none))))
      , ?_⟩
    refine ⟨_, rfl, _, rfl, q, _, _, _, rfl, rfl, SqT.of hq, atI_nat (j := 0) rfl, _, rfl, _, rfl, lz, ?_⟩
    refine ⟨_, rfl, q, _, _, _, rfl, rfl, SqT.of hq, atI_nat (j := 2) rfl, _, _, rfl, rfl, Nat.le_trans l1 (by decide), ?_⟩
    exact ⟨_, rfl, _, rfl, q, _, _, _, rfl, rfl, SqT.of hq, atI_nat (j := 1) rfl, _, rfl, _, rfl, lz, _, _, rfl, rfl, Nat.le_trans l2 (by decide), kq⟩

/-- changes one behind the other: the text, or the first that is refused -/
def goBy : Str → List Ch → Ch ⊕ Str
  | t, [] => .inr t
  | t, c :: r => if (t.length : Int) < c.e then .inl c else goBy (chg t c) r
def nextBy (z : Ch ⊕ Str) (c : Ch) : Ch ⊕ Str := match z with
  | .inl b => .inl b
  | .inr u => if (u.length : Int) < c.e then .inl c else .inr (chg u c)
theorem goBy_snoc : ∀ (cs : List Ch) (t : Str) (c : Ch), goBy t (cs ++ [c]) = nextBy (goBy t cs) c
  | [], t, c => by
    show (if (t.length : Int) < c.e then Sum.inl c else goBy (chg t c) []) = (if (t.length : Int) < c.e then Sum.inl c else Sum.inr (chg t c))
    rfl
  | x :: r, t, c => by
    show (if (t.length : Int) < x.e then Sum.inl x else goBy (chg t x) (r ++ [c])) = nextBy (if (t.length : Int) < x.e then Sum.inl x else goBy (chg t x) r) c
    by_cases h : (t.length : Int) < x.e
    · rw [if_pos h, if_pos h]
      rfl
    · rw [if_neg h, if_neg h]
      exact goBy_snoc r (chg t x) c
/-- what is told of that -/
def byD (z : Ch ⊕ Str) : PyData := match z with
  | .inl c => .tuple [.str "none", chD c]
  | .inr u => .tuple [.str "told", .str u]
/-- no longer than i changes make it -/
structure Long (i : Nat) (u : Str) : Prop where
  l : u.length + 10 ≤ 40 * 2 ^ i
  n : Nice u
theorem chg_long {i : Nat} {u : Str} {c : Ch} (h : Long i u) (hs : c.s.length ≤ 10) (hn : Nice c.s) : Long (i + 1) (chg u c) := by
  have a := cutS_length u none (some c.b)
  have b := cutS_length u (some c.e) none
  have := h.l
  refine ⟨?_, (h.n.cut _ _).cat hn |>.cat (h.n.cut _ _)⟩
  show (cutS u none (some c.b) ++ c.s ++ cutS u (some c.e) none).length + 10 ≤ _
  rw [Str.length_append, Str.length_append, Nat.pow_succ]
  omega
/-- a text and a row of changes of it -/
structure Row (K : PySem.W.Frag) (H : Hp) (t : Str) (a : Addr) (xs : List V) (cs : List Ch) : Prop where
  sq : SqL K H a xs ∨ SqT K H a xs
  tr : TrAll H xs (cs.map chD)
  lt : Long 0 t
  ok : ∀ c ∈ cs, ChOk c ∧ c.s.length ≤ 10
  lc : cs.length ≤ 4
theorem pow4 {i : Nat} (h : i ≤ 4) : 2 ^ i ≤ 16 := Nat.le_trans (Nat.pow_le_pow_right (by decide) h) (by decide)
def spByX (K : PySem.W.Frag) (C : Addr) : Sp := fun vs H Q E => ∃ (t : Str) (a : Addr) (xs : List V) (cs : List Ch), vs = [.str t, .ref a] ∧ Row K H t a xs cs ∧
  (∀ c v d H', goBy t cs = .inl c → Tr H' v (chD c) → Same H H' → H' d = some (.xd [(("change" : Str), v)]) → E (.ref C) (some d) H') ∧
  (∀ u, goBy t cs = .inr u → Q (.str u) H)
theorem c_p_changed_by {C : Addr} (T : Txt K mg w) (c_p_changed : CalX P w K mg base 3 "changed" ["text", "change"] (spChX C)) : CalX P w K mg base 4 "changed_by" ["text", "changes"] (spByX K C) := by
  refine calXOf T.d_p_changed_by sc_p_changed_by (fun vs H Q E h => ?_) (fun f cdv A outer s H vs Q E hr h => ?_)
  · obtain ⟨t, a, xs, cs, rfl, _⟩ := h
    rfl
  · obtain ⟨t, a, xs, cs, rfl, hc, kx, kq⟩ := h
    refine ⟨_,
      (pss_cons (ps_set (i := 2) sc_p_changed_by.nd rfl (Or.inl rfl) (pv 0))
        (pss_cons (ps_for (passes_of rfl) rfl (pi_either (pv 1)) (pg_name (i := 3) sc_p_changed_by.nd rfl (Or.inl rfl))
        (pss_one (ps_set (i := 2) sc_p_changed_by.nd rfl (Or.inl rfl) (pe_cX c_p_changed hr (by decide) rfl (takes_of rfl rfl rfl rfl) (pa_cons (pv 2) (pa_cons (pv 3) pa_nil))))))
        (pss_one (ps_ret (pv 2)))))
      , ?_⟩
    have lxs : xs.length = cs.length := by rw [hc.tr.len, List.length_map]
    refine ⟨_, rfl, ?_⟩
    refine for_either (i := 1) hc.sq rfl (fun i σ H' => ∃ (u : Str) (v3 : Option V), σ = [some (.str t), some (.ref a), some (.str u), v3] ∧ H' = H ∧ Long i u ∧ goBy t cs = goBy u (cs.drop i))
      ⟨t, none, rfl, rfl, hc.lt, rfl⟩ (fun i σ' H' ⟨_, _, _, e, _⟩ => by rw [e]; exact Same.refl H) ?_ ?_
    · rintro i y σ' H' hi ⟨u, v3, rfl, rfl, lu, gb⟩
      obtain ⟨c, q, hci, rfl, hq, tq⟩ := chs_at hc.tr hi
      obtain ⟨oc, sc⟩ := hc.ok c (List.mem_of_getElem? hci)
      have li := (List.getElem?_eq_some_iff.mp hci).1
      have p4 := pow4 (i := i) (by have := hc.lc; omega)
      have ll := lu.l
      rw [drop_at hci] at gb
      have gb : goBy t cs = if (u.length : Int) < c.e then .inl c else goBy (chg u c) (cs.drop (i + 1)) := gb
      refine ⟨_, rfl, _, rfl, u, q, c, rfl, hq, ⟨by omega, oc⟩, fun h d H2 s2 h2 => ?_, fun h => ?_⟩
      · rw [if_pos h] at gb
        exact kx c (.ref q) d H2 gb (tq.keep (Tk.of s2)) s2 h2
      · rw [if_neg h] at gb
        exact ⟨chg u c, _, rfl, rfl, chg_long lu sc oc.n, gb⟩
    · rintro σ' H' ⟨u, v3, rfl, rfl, lu, gb⟩
      rw [lxs, List.drop_length] at gb
      exact ⟨_, rfl, kq u gb⟩

open LamX (CodeO TabS Tabs ExtN TabB GivesTo)
/-- there are as many slots as names -/
def tLen (n : Nat) (t : TE) : TE := fun σ H Q => σ.length = n → t σ H Q
theorem pe_len {X : Cx} {e : Expr} {t : TE} (h : PE X e t) : PE X e (tLen X.N.length t) := ⟨fun pins s σ H Q I k => h.run pins s σ H Q I (k I.len)⟩
/-- what comes of the lambda's reading -/
def TTheard (C : Addr) : (XK → Hp → VK → Prop) → Hp → VK → Prop := fun tl H Q =>
  tl (fun cls d H' => cls = .ref C ∧ ∃ dd v, d = some dd ∧ H' dd = some (.xd [(("change" : Str), v)]) ∧ ∀ p, H' p = none → Q (.ref p) (upd H' p (.tup [.str "none", v]))) H
    (fun v H' => ([.str "told", v] : List V).length ≤ sizeLine ∧ ∀ p, H' p = none → Q (.ref p) (upd H' p (.tup [.str "told", v])))
theorem slot1 {σ : List (Option V)} {v : Option V} (h : (σ.set 1 v).length = 2) : (σ.set 1 v)[1]? = some v := by
  rw [List.length_set] at h
  exact List.getElem?_set_self (by omega)
theorem heard_gives {X : Cx} {C fI g : Addr} {cdg : Value} {q : Str} (TX : XcT X.K X.mg "NoChange" "change" C fI) :
    GivesTo X ["_law_act", "e"] "_law_heard" (defScope s_l_heard) g cdg (defBody s_l_heard) "_law_act" q (TTheard C) := by
  intro f c' s H Q tl act hc h
  refine ⟨_, pss_one (ps_try_hd (X := (cxOf C8.CX0 X.prog X.w X.K X.mg X.base ["_law_act", "e"] "_law_heard" (defScope s_l_heard) g cdg X.A X.stack s H C8.E0).nox) (i := 1) (n := "e") (c := .ref C)
      (tb := fun W D σ H => ∃ Ech : XK, (∀ cls d σ' H', Ech cls d H' → W cls d σ' H') ∧
        tRet (tTup (tCons (tC (.str "told")) (tCons (fun σZ HZ Q => σZ[0]? = some (some (.ref f)) ∧ HZ c' = some (CodeO c' q) ∧ tl Ech HZ Q) tNil))) D σ H)
      (ts := fun a z d => tRet (tTup (tCons (tC (.str "none")) (tCons (tXf a z d C "change" (tLen 2 (tVar 1))) tNil)))) rfl rfl sc_l_heard.nd rfl rfl ⟨rfl, by decide, .inl TX.gl⟩
      (fun W pn xe tk => ?_)
      (fun a oe z d pn hz hf => pss_one (ps_ret (pe_tup (pa_cons pe_str (pa_cons (pe_xf TX.xf TX.no hz hf (by exact pe_len (pv 1))) pa_nil)))))), ?_⟩
  · refine ⟨fun pins s' σ H' D I h' => ?_⟩
    obtain ⟨Ech, hW, h1⟩ := h'
    exact (pss_one (ps_ret (pe_tup (pa_cons pe_str (pa_cons (act W pn xe Ech _ _ tk hW) pa_nil))))).run pins s' σ H' D I h1
  · refine ⟨fun cls d H' => cls = .ref C ∧ ∃ dd v, d = some dd ∧ H' dd = some (.xd [(("change" : Str), v)]) ∧ ∀ p, H' p = none → Q (.ref p) (upd H' p (.tup [.str "none", v])), ?_, rfl, hc, ?_⟩
    · rintro cls d σ' H' ⟨rfl, dd, v, rfl, hd, k⟩
      exact ⟨TX.me, fun a na => fun hl => ⟨_, slot1 hl, rfl, rfl, dd, _, v, rfl, hd, rfl, by show 2 ≤ sizeLine; decide, fun p hp => k p hp⟩⟩
    · exact h

def puts6 : List Str := ["", "x", "\n", "let a = 1;", " ", "aa", "ab"]
theorem puts6_ok : ∀ x ∈ puts6, x.length ≤ 10 ∧ Nice x := by
  have h : puts6.all (fun x => decide (x.length ≤ 10) && (TL.tl x).all (· < 0x110000)) = true := by decide +kernel
  intro x hx
  have := List.all_eq_true.mp h x hx
  rw [Bool.and_eq_true] at this
  exact ⟨of_decide_eq_true this.1, nice_of this.2⟩
/-- a change as it is drawn of a text of n signs -/
structure ChDr (n : Nat) (c : Ch) : Prop where
  b : 0 ≤ c.b ∧ c.b ≤ n
  e : c.b ≤ c.e ∧ c.e ≤ n + 2
  s : c.s.length ≤ 10
  n : Nice c.s
theorem ChDr.ok {n : Nat} {c : Ch} (h : ChDr n c) (hn : n ≤ 900) : ChOk c ∧ c.s.length ≤ 10 := by
  obtain ⟨h1, h2, h3, h4⟩ := h
  exact ⟨⟨by omega, by omega, by omega, h4⟩, h3⟩
def spDrC : Sp := fun vs H Q _ => ∃ (g : Bg) (n : Nat) (c e : Int), vs = [.ref g.b, .int n] ∧ Bag H g c e ∧ n ≤ 900 ∧
  ∀ (v : V) (x : Ch) (H' : Hp), ChDr n x → Tr H' v (chD x) → Drawn g H H' c e → Q v H'
theorem c_l_drawn_change (T : Txt K mg w) (c_l_take : Cal P w K mg base 1 "_law_take" spTake []) (c_l_one : Cal P w K mg base 2 "_law_one" (spOne K) []) : Cal P w K mg base 3 "_law_drawn_change" spDrC [] := by
  refine calOf T.d_l_drawn_change sc_l_drawn_change (fun vs H Q E h => ?_) (fun f cdv A outer s H vs Q E hr h => ?_)
  · obtain ⟨g, n, c, e, rfl, _⟩ := h
    rfl
  · obtain ⟨g, n, c, e, rfl, B, hn, k⟩ := h
    refine ⟨_,
      (pss_cons (ps_set (i := 2) sc_l_drawn_change.nd rfl (Or.inl rfl) (pe_c c_l_take hr (by first | decide | omega) rfl (pa_cons (pv 0) (pa_cons (pe_op op_add (pv 1) pe_int) pa_nil))))
        (pss_cons (ps_set (i := 3) sc_l_drawn_change.nd rfl (Or.inl rfl) (pe_op op_add (pv 2) (pe_c c_l_take hr (by first | decide | omega) rfl (pa_cons (pv 0) (pa_cons (pe_op op_add (pe_op op_add (pe_op op_sub (pv 1) (pv 2)) pe_int) (pe_op op_mul pe_int (pe_callTy call_int1 (by rfl) T.n_int (by decide +kernel) (pa_cons (pe_cmpR op_eq (pe_c c_l_take hr (by first | decide | omega) rfl (pa_cons (pv 0) (pa_cons pe_int pa_nil))) pe_int (nomark _)) pa_nil)))) pa_nil)))))
        (pss_one (ps_ret (pe_tup (pa_cons (pv 2) (pa_cons (pv 3) (pa_cons (pe_c c_l_one hr (by first | decide | omega) rfl (pa_cons (pv 0) (pa_cons (pe_lst (pa_cons pe_str (pa_cons pe_str (pa_cons pe_str (pa_cons pe_str (pa_cons pe_str (pa_cons pe_str (pa_cons pe_str pa_nil)))))))) pa_nil))) pa_nil))))))))
      , ?_⟩
    refine ⟨_, rfl, _, rfl, _, _, rfl, rfl, g, _, c, e, rfl, B, by omega, by omega, fun b H1 b0 b1 D1 => ?_⟩
    refine ⟨_, rfl, _, rfl, _, rfl, _, rfl, _, _, rfl, rfl, _, _, rfl, rfl, ?_⟩
    refine ⟨_, rfl, g, 4, c, e, rfl, D1.bag, by decide, by decide, fun r H2 r0 r1 D2 => ⟨rfl, .inr ⟨_, rfl, ?_⟩⟩⟩
    obtain ⟨z, hz, ez⟩ : ∃ z : Int, (z = 0 ∨ z = 1) ∧ (if decide (V.int r = V.int 0) = true then 1 else 0) = z := by
      cases decide (V.int r = V.int 0)
      · exact ⟨0, .inl rfl, rfl⟩
      · exact ⟨1, .inr rfl, rfl⟩
    rw [ez]
    refine ⟨_, _, rfl, rfl, .inl (by decide), _, _, rfl, rfl, g, _, c, e, rfl, D2.bag, ?_, ?_, fun m H3 m0 m1 D3 => ?_⟩
    · show 0 < (n : Int) - b + 1 + 2 * z
      omega
    · show (n : Int) - b + 1 + 2 * z < 1073741824
      omega
    have m1 : m < (n : Int) - b + 1 + 2 * z := m1
    refine ⟨_, _, rfl, rfl, _, rfl, _, rfl, _, rfl, by show 7 ≤ sizeLine; decide, fun p hp => ?_⟩
    refine pick_of (l := puts6.map V.str) D3.bag hp (by decide) (by decide) fun v H4 hv D4 => ?_
    obtain ⟨y, hy, rfl⟩ := strs_in hv
    obtain ⟨y1, y2⟩ := puts6_ok y hy
    refine ⟨by show 3 ≤ sizeLine; decide, fun q hq => ?_⟩
    refine k _ ⟨b, b + m, y⟩ _ ⟨⟨b0, by show b ≤ n; omega⟩, ⟨by show b ≤ b + m; omega, by show b + m ≤ n + 2; omega⟩, y1, y2⟩ ?_ ((((D1.trans D2).trans D3).trans D4).new hq)
    exact .tup upd_same (.cons (.int _) (.cons (.int _) (.cons (.str _) .nil)))

def spBack : Sp := fun vs H Q _ => ∃ (t : Str) (q : Addr) (c : Ch), vs = [.str t, .ref q] ∧ H q = some (.tup [.int c.b, .int c.e, .str c.s]) ∧ t.length ≤ 2000 ∧ c.s.length ≤ 100 ∧
  ∀ p, H p = none → Q (.ref p) (upd H p (.tup [.int c.b, .int (c.b + c.s.length), .str (cutS t (some c.b) (some c.e))]))
theorem c_p_back_of (T : Txt K mg w) : Cal P w K mg base 1 "back_of" spBack [] := by
  refine calOf T.d_p_back_of sc_p_back_of (fun vs H Q E h => ?_) (fun f cdv A outer s H vs Q E hr h => ?_)
  · obtain ⟨t, q, c, rfl, _⟩ := h
    rfl
  · obtain ⟨t, q, c, rfl, hq, lt, ls, k⟩ := h
    have lz : t.length ≤ sizeLine := Nat.le_trans lt (by decide)
    have sz : c.s.length ≤ sizeLine := Nat.le_trans ls (by decide)
    refine ⟨_,
      (pss_cons (ps_asg (pv 1) (pg_tup rfl (pgs_cons (pg_name (i := 2) sc_p_back_of.nd rfl (Or.inl rfl)) (pgs_cons (pg_name (i := 3) sc_p_back_of.nd rfl (Or.inl rfl)) (pgs_cons (pg_name (i := 4) sc_p_back_of.nd rfl (Or.inl rfl)) pgs_nil)))))
        (pss_one (ps_ret (pe_tup (pa_cons (pv 2) (pa_cons (pe_op op_add (pv 2) (pe_callB call_len (by rfl) T.n_len PySem.boot_len (pa_cons (pv 4) pa_nil))) (pa_cons (pe_slice sl_str (pv 0) (po_some (pv 2)) (po_some (pv 3))) pa_nil)))))))
      , ?_⟩
    refine ⟨_, rfl, q, _, rfl, SqT.of hq, rfl, _, _, rfl, _, _, rfl, _, _, rfl, rfl, ?_⟩
    exact ⟨_, rfl, _, rfl, _, rfl, _, c.s.length, rfl, ⟨sz, rfl⟩, _, _, rfl, rfl, _, rfl, _, rfl, _, rfl, _, rfl, _, rfl, _, rfl, lz, by show 3 ≤ sizeLine; decide, fun p hp => k p hp⟩
def spSame : Sp := fun vs H Q _ => ∃ (x y : Str), vs = [.str x, .str y] ∧ x.length ≤ 1000 ∧ y.length ≤ 1000 ∧ Q (.int (lcp (TL.tl x) (TL.tl y))) H
theorem c_p_same_begin (T : Txt K mg w) : Cal P w K mg base 1 "_same_begin" spSame [] := by
  refine calOf T.d_p_same_begin sc_p_same_begin (fun vs H Q E h => ?_) (fun f cdv A outer s H vs Q E hr h => ?_)
  · obtain ⟨x, y, rfl, _⟩ := h
    rfl
  · obtain ⟨x, y, rfl, lx, ly, k⟩ := h
    have zx : x.length ≤ sizeLine := Nat.le_trans lx (by decide)
    have zy : y.length ≤ sizeLine := Nat.le_trans ly (by decide)
    refine ⟨_,
      (pss_cons (ps_set (i := 2) sc_p_same_begin.nd rfl (Or.inl rfl) pe_int)
        (pss_cons (ps_while PassesOwn.never (PW.pt (pw_and (pt_cmpR op_lt (pv 2) (pe_callB (call_min2 rfl) (by rfl) T.n_min (by decide +kernel) (pa_cons (pe_callB call_len (by rfl) T.n_len PySem.boot_len (pa_cons (pv 0) pa_nil)) (pa_cons (pe_callB call_len (by rfl) T.n_len PySem.boot_len (pa_cons (pv 1) pa_nil)) pa_nil))) (nomark _)) (pw_and1 (pt_cmpR op_eq (pe_ix ix_str (pv 0) (pv 2) (fun _ _ => rfl)) (pe_ix ix_str (pv 1) (pv 2) (fun _ _ => rfl)) (nomark _)))))
        (pss_one (ps_aug (i := 2) sc_p_same_begin.nd rfl (Or.inl rfl) pe_int ip_add)))
        (pss_one (ps_ret (pv 2)))))
      , ?_⟩
    refine ⟨fun m σ' H' => ∃ i : Nat, σ' = [some (.str x), some (.str y), some (.int i)] ∧ H' = H ∧ m = x.length - i ∧ lcp (TL.tl x) (TL.tl y) = i + lcp ((TL.tl x).drop i) ((TL.tl y).drop i) ∧ i ≤ x.length ∧ i ≤ y.length,
      ⟨_, 0, rfl, rfl, rfl, by simp, Nat.zero_le _, Nat.zero_le _⟩, ?_⟩
    rintro m σ' H' ⟨i, rfl, rfl, rfl, hl, i1, i2⟩
    have ex := str_len x
    have ey := str_len y
    refine ⟨_, rfl, _, rfl, _, x.length, rfl, ⟨zx, rfl⟩, _, rfl, _, y.length, rfl, ⟨zy, rfl⟩, _, _, rfl, _, _, rfl, rfl, _, rfl, ?_⟩
    refine ite2 (fun h1 => ?_) (fun h1 => ?_)
    · have h1 : (i : Int) < if (y.length : Int) < x.length then (y.length : Int) else x.length := of_decide_eq_true h1
      have hx : i < (TL.tl x).length := by
        split at h1 <;> omega
      have hy : i < (TL.tl y).length := by
        split at h1 <;> omega
      have gx := List.getElem?_eq_getElem hx
      have gy := List.getElem?_eq_getElem hy
      refine ⟨_, rfl, _, rfl, _, _, _, rfl, rfl, zx, atI_nat (j := i) gx, _, rfl, _, rfl, _, _, _, rfl, rfl, zy, atI_nat (j := i) gy, rfl, _, rfl, ?_⟩
      refine ite2 (fun h2 => ?_) (fun h2 => ?_)
      · have e2 : (TL.tl x)[i] = (TL.tl y)[i] := by
          have e3 := of_decide_eq_true h2
          simpa using e3
        rw [← e2] at gy
        refine ⟨_, fun σ' H' h => h, ?_⟩
        refine ⟨_, rfl, _, _, rfl, rfl, ?_⟩
        exact ⟨x.length - (i + 1), by omega, i + 1, rfl, rfl, rfl, lcp_more hl gx gy, by omega, by omega⟩
      · have e2 : (TL.tl x)[i] ≠ (TL.tl y)[i] := fun z => h2 (decide_eq_true (by rw [z]))
        refine ⟨_, rfl, ?_⟩
        rw [lcp_end hl gx gy e2] at k
        exact k
    · refine ⟨_, rfl, ?_⟩
      have e1 := lcp_end' hl (fun z => h1 (decide_eq_true (by
        show (i : Int) < if (y.length : Int) < x.length then (y.length : Int) else x.length
        split <;> omega)))
      rw [e1] at k
      exact k
/-- the least change -/
def betw (x y : Str) : Ch := ⟨begB (TL.tl x) (TL.tl y), (x.length : Int) - sameB (TL.tl x) (TL.tl y), cutS y (some (begB (TL.tl x) (TL.tl y))) (some ((y.length : Int) - sameB (TL.tl x) (TL.tl y)))⟩
def spBetw : Sp := fun vs H Q _ => ∃ (x y : Str), vs = [.str x, .str y] ∧ x.length ≤ 1000 ∧ y.length ≤ 1000 ∧ ∀ v H', Same H H' → Tr H' v (chD (betw x y)) → Q v H'
theorem c_p_change_between (T : Txt K mg w) (c_p_same_begin : Cal P w K mg base 1 "_same_begin" spSame []) : Cal P w K mg base 2 "change_between" spBetw [] := by
  refine calOf T.d_p_change_between sc_p_change_between (fun vs H Q E h => ?_) (fun f cdv A outer s H vs Q E hr h => ?_)
  · obtain ⟨x, y, rfl, _⟩ := h
    rfl
  · obtain ⟨x, y, rfl, lx, ly, k⟩ := h
    have zx : x.length ≤ sizeLine := Nat.le_trans lx (by decide)
    have zy : y.length ≤ sizeLine := Nat.le_trans ly (by decide)
    refine ⟨_,
      (pss_cons (ps_set (i := 2) sc_p_change_between.nd rfl (Or.inl rfl) (pe_c c_p_same_begin hr (by first | decide | omega) rfl (pa_cons (pv 0) (pa_cons (pv 1) pa_nil))))
        (pss_cons (ps_set (i := 3) sc_p_change_between.nd rfl (Or.inl rfl) (pe_c c_p_same_begin hr (by first | decide | omega) rfl (pa_cons (pe_revS (pe_slice sl_str (pv 0) (po_some (pv 2)) po_none)) (pa_cons (pe_revS (pe_slice sl_str (pv 1) (po_some (pv 2)) po_none)) pa_nil))))
        (pss_one (ps_ret (pe_tup (pa_cons (pv 2) (pa_cons (pe_op op_sub (pe_callB call_len (by rfl) T.n_len PySem.boot_len (pa_cons (pv 0) pa_nil)) (pv 3)) (pa_cons (pe_slice sl_str (pv 1) (po_some (pv 2)) (po_some (pe_op op_sub (pe_callB call_len (by rfl) T.n_len PySem.boot_len (pa_cons (pv 1) pa_nil)) (pv 3)))) pa_nil))))))))
      , ?_⟩
    refine ⟨_, rfl, _, rfl, x, y, rfl, lx, ly, ?_⟩
    have lr : ∀ (z : Str) (o : Option Int), z.length ≤ 1000 → (revS (cutS z o none)).length ≤ 1000 := fun z o h => by
      rw [str_len, tl_revS, List.length_reverse, ← str_len]
      exact Nat.le_trans (cutS_length _ _ _) h
    have cz : ∀ (z : Str) (o : Option Int), z.length ≤ 1000 → (cutS z o none).length ≤ sizeLine := fun z o h => Nat.le_trans (cutS_length _ _ _) (Nat.le_trans h (by decide))
    refine ⟨_, rfl, _, rfl, _, rfl, _, rfl, zx, _, rfl, cz x _ lx, _, rfl, _, rfl, _, rfl, _, rfl, zy, _, rfl, cz y _ ly, _, _, rfl, lr x _ lx, lr y _ ly, ?_⟩
    rw [tl_revS, tl_revS, tl_from, tl_from]
    refine ⟨_, rfl, _, rfl, _, x.length, rfl, ⟨zx, rfl⟩, _, rfl, _, _, rfl, rfl, _, rfl, _, rfl, _, rfl, _, rfl, _, y.length, rfl, ⟨zy, rfl⟩, _, rfl, _, _, rfl, rfl, _, rfl, _, rfl, zy, by show 3 ≤ sizeLine; decide, fun p hp => ?_⟩
    exact k _ _ (same_new hp) (.tup upd_same (.cons (.int _) (.cons (.int _) (.cons (.str _) .nil))))

theorem rev_at {X : List Nat} {B k : Nat} (h : k + B < X.length) : ((X.drop B).reverse)[k]? = X[X.length - 1 - k]? := by
  rw [List.getElem?_reverse (by rw [List.length_drop]; omega), List.length_drop, List.getElem?_drop]
  congr 1
  omega
theorem c_l_change_between (T : Txt K mg w) : Cal P w K mg base 1 "_law_change_between" spBetw [] := by
  refine calOf T.d_l_change_between sc_l_change_between (fun vs H Q E h => ?_) (fun f cdv A outer s H vs Q E hr h => ?_)
  · obtain ⟨x, y, rfl, _⟩ := h
    rfl
  · obtain ⟨x, y, rfl, lx, ly, k⟩ := h
    have zx : x.length ≤ sizeLine := Nat.le_trans lx (by decide)
    have zy : y.length ≤ sizeLine := Nat.le_trans ly (by decide)
    have ex := str_len x
    have ey := str_len y
    refine ⟨_,
      (pss_cons (ps_set (i := 2) sc_l_change_between.nd rfl (Or.inl rfl) pe_int)
        (Evl.pss_cut (ps_while PassesOwn.never (PW.pt (pw_and (pt_cmpR op_lt (pv 2) (pe_callB call_len (by rfl) T.n_len PySem.boot_len (pa_cons (pv 0) pa_nil)) (nomark _)) (pw_and (pt_cmpR op_lt (pv 2) (pe_callB call_len (by rfl) T.n_len PySem.boot_len (pa_cons (pv 1) pa_nil)) (nomark _)) (pw_and1 (pt_cmpR op_eq (pe_ix ix_str (pv 0) (pv 2) (fun _ _ => rfl)) (pe_ix ix_str (pv 1) (pv 2) (fun _ _ => rfl)) (nomark _))))))
        (pss_one (ps_aug (i := 2) sc_l_change_between.nd rfl (Or.inl rfl) pe_int ip_add)))
        (pss_cons (ps_set (i := 3) sc_l_change_between.nd rfl (Or.inl rfl) (pe_callB call_len (by rfl) T.n_len PySem.boot_len (pa_cons (pv 0) pa_nil)))
        (Evl.pss_cut (ps_while PassesOwn.never (PW.pt (pw_and (pt_cmpR op_gt (pv 3) (pv 2) (nomark _)) (pw_and (pt_cmpR op_gt (pe_op op_sub (pe_callB call_len (by rfl) T.n_len PySem.boot_len (pa_cons (pv 1) pa_nil)) (pe_op op_sub (pe_callB call_len (by rfl) T.n_len PySem.boot_len (pa_cons (pv 0) pa_nil)) (pv 3))) (pv 2) (nomark _)) (pw_and1 (pt_cmpR op_eq (pe_ix ix_str (pv 0) (pe_op op_sub (pv 3) pe_int) (fun _ _ => rfl)) (pe_ix ix_str (pv 1) (pe_op op_sub (pe_op op_sub (pe_callB call_len (by rfl) T.n_len PySem.boot_len (pa_cons (pv 1) pa_nil)) (pe_op op_sub (pe_callB call_len (by rfl) T.n_len PySem.boot_len (pa_cons (pv 0) pa_nil)) (pv 3))) pe_int) (fun _ _ => rfl)) (nomark _))))))
        (pss_one (ps_aug (i := 3) sc_l_change_between.nd rfl (Or.inl rfl) pe_int ip_sub)))
        (pss_one (ps_ret (pe_tup (pa_cons (pv 2) (pa_cons (pv 3) (pa_cons (pe_slice sl_str (pv 1) (po_some (pv 2)) (po_some (pe_op op_sub (pe_callB call_len (by rfl) T.n_len PySem.boot_len (pa_cons (pv 1) pa_nil)) (pe_op op_sub (pe_callB call_len (by rfl) T.n_len PySem.boot_len (pa_cons (pv 0) pa_nil)) (pv 3))))) pa_nil))))))))))
      , ?_⟩
    refine ⟨fun σ' H' => σ' = [some (.str x), some (.str y), some (.int (begB (TL.tl x) (TL.tl y))), none] ∧ H' = H, ?_, ?_⟩
    · refine ⟨fun m σ' H' => ∃ i : Nat, σ' = [some (.str x), some (.str y), some (.int i), none] ∧ H' = H ∧ m = x.length - i ∧ lcp (TL.tl x) (TL.tl y) = i + lcp ((TL.tl x).drop i) ((TL.tl y).drop i) ∧ i ≤ x.length ∧ i ≤ y.length,
        ⟨_, 0, rfl, rfl, rfl, by simp, Nat.zero_le _, Nat.zero_le _⟩, ?_⟩
      rintro m σ' H' ⟨i, rfl, rfl, rfl, hl, i1, i2⟩
      have out : lcp (TL.tl x) (TL.tl y) = i → ([some (V.str x), some (.str y), some (.int (i : Nat)), none] : List (Option V)) = [some (.str x), some (.str y), some (.int (begB (TL.tl x) (TL.tl y))), none] ∧ H' = H' := fun e => by
        refine ⟨?_, rfl⟩
        unfold begB
        rw [e]
      refine ⟨_, rfl, _, rfl, _, x.length, rfl, ⟨zx, rfl⟩, _, _, rfl, rfl, _, rfl, ?_⟩
      refine ite2 (fun h1 => ?_) (fun h1 => ?_)
      · have h1 : (i : Int) < x.length := of_decide_eq_true h1
        refine ⟨_, rfl, _, rfl, _, y.length, rfl, ⟨zy, rfl⟩, _, _, rfl, rfl, _, rfl, ?_⟩
        refine ite2 (fun h2 => ?_) (fun h2 => ?_)
        · have h2 : (i : Int) < y.length := of_decide_eq_true h2
          have gx := List.getElem?_eq_getElem (show i < (TL.tl x).length by omega)
          have gy := List.getElem?_eq_getElem (show i < (TL.tl y).length by omega)
          refine ⟨_, rfl, _, rfl, _, _, _, rfl, rfl, zx, atI_nat (j := i) gx, _, rfl, _, rfl, _, _, _, rfl, rfl, zy, atI_nat (j := i) gy, rfl, _, rfl, ?_⟩
          refine ite2 (fun h3 => ?_) (fun h3 => ?_)
          · have e2 : (TL.tl x)[i] = (TL.tl y)[i] := by
              have e3 := of_decide_eq_true h3
              simpa using e3
            rw [← e2] at gy
            refine ⟨_, fun σ' H' h => h, _, rfl, _, _, rfl, rfl, ?_⟩
            exact ⟨x.length - (i + 1), by omega, i + 1, rfl, rfl, rfl, lcp_more hl gx gy, by omega, by omega⟩
          · exact out (lcp_end hl gx gy fun z => h3 (decide_eq_true (by rw [z])))
        · have h2 : ¬ (i : Int) < y.length := fun z => h2 (decide_eq_true z)
          exact out (lcp_end' hl fun z => by omega)
      · have h1 : ¬ (i : Int) < x.length := fun z => h1 (decide_eq_true z)
        exact out (lcp_end' hl fun z => by omega)
    · rintro σ' H' ⟨rfl, rfl⟩
      have bl := begB_le (TL.tl x) (TL.tl y)
      refine ⟨_, rfl, _, x.length, rfl, ⟨zx, rfl⟩, ?_⟩
      refine ⟨fun σ' G => σ' = [some (.str x), some (.str y), some (.int (begB (TL.tl x) (TL.tl y))), some (.int ((x.length : Int) - sameB (TL.tl x) (TL.tl y)))] ∧ G = H', ?_, ?_⟩
      · have hX : (((TL.tl x).drop (begB (TL.tl x) (TL.tl y))).reverse).length = x.length - begB (TL.tl x) (TL.tl y) := by
          rw [List.length_reverse, List.length_drop, ex]
        have hY : (((TL.tl y).drop (begB (TL.tl x) (TL.tl y))).reverse).length = y.length - begB (TL.tl x) (TL.tl y) := by
          rw [List.length_reverse, List.length_drop, ey]
        have eB : sameB (TL.tl x) (TL.tl y) = lcp (((TL.tl x).drop (begB (TL.tl x) (TL.tl y))).reverse) (((TL.tl y).drop (begB (TL.tl x) (TL.tl y))).reverse) := rfl
        have rX : ∀ j, j + begB (TL.tl x) (TL.tl y) < x.length → (((TL.tl x).drop (begB (TL.tl x) (TL.tl y))).reverse)[j]? = (TL.tl x)[x.length - 1 - j]? := fun j h => by
          rw [ex] at h ⊢
          exact rev_at h
        have rY : ∀ j, j + begB (TL.tl x) (TL.tl y) < y.length → (((TL.tl y).drop (begB (TL.tl x) (TL.tl y))).reverse)[j]? = (TL.tl y)[y.length - 1 - j]? := fun j h => by
          rw [ey] at h ⊢
          exact rev_at h
        generalize sameB (TL.tl x) (TL.tl y) = S at eB k ⊢
        generalize begB (TL.tl x) (TL.tl y) = B at *
        generalize ((TL.tl x).drop B).reverse = X at *
        generalize ((TL.tl y).drop B).reverse = Y at *
        refine ⟨fun m σ' G => ∃ j : Nat, σ' = [some (.str x), some (.str y), some (.int B), some (.int ((x.length : Int) - j))] ∧ G = H' ∧ m = x.length - j ∧ lcp X Y = j + lcp (X.drop j) (Y.drop j) ∧ j ≤ X.length ∧ j ≤ Y.length,
          ⟨_, 0, by simp, rfl, rfl, by simp, Nat.zero_le _, Nat.zero_le _⟩, ?_⟩
        rintro m σ' G ⟨j, rfl, rfl, rfl, hl, i1, i2⟩
        have out : lcp X Y = j → ([some (V.str x), some (.str y), some (.int B), some (.int ((x.length : Int) - j))] : List (Option V)) = [some (.str x), some (.str y), some (.int B), some (.int ((x.length : Int) - S))] ∧ G = G := fun e => by
          refine ⟨?_, rfl⟩
          rw [eB, e]
        refine ⟨_, rfl, _, rfl, _, _, rfl, rfl, _, rfl, ?_⟩
        refine ite2 (fun h1 => ?_) (fun h1 => ?_)
        · have h1 : (B : Int) < (x.length : Int) - j := of_decide_eq_true h1
          refine ⟨_, rfl, _, y.length, rfl, ⟨zy, rfl⟩, _, rfl, _, x.length, rfl, ⟨zx, rfl⟩, _, rfl, _, _, rfl, rfl, _, _, rfl, rfl, _, rfl, _, _, rfl, rfl, _, rfl, ?_⟩
          refine ite2 (fun h2 => ?_) (fun h2 => ?_)
          · have h2 : (B : Int) < (y.length : Int) - ((x.length : Int) - ((x.length : Int) - j)) := of_decide_eq_true h2
            have gx := List.getElem?_eq_getElem (show x.length - 1 - j < (TL.tl x).length by omega)
            have gy := List.getElem?_eq_getElem (show y.length - 1 - j < (TL.tl y).length by omega)
            have ix : (x.length : Int) - j - 1 = ((x.length - 1 - j : Nat) : Int) := by omega
            have iy : (y.length : Int) - ((x.length : Int) - ((x.length : Int) - j)) - 1 = ((y.length - 1 - j : Nat) : Int) := by omega
            have gX := (rX j (by omega)).trans gx
            have gY := (rY j (by omega)).trans gy
            refine ⟨_, rfl, _, rfl, _, _, rfl, rfl, _, _, _, rfl, rfl, zx, (by show atI _ ((x.length : Int) - j - 1) = _; rw [ix]; exact atI_nat (j := x.length - 1 - j) gx), ?_⟩
            refine ⟨_, rfl, _, rfl, _, y.length, rfl, ⟨zy, rfl⟩, _, rfl, _, x.length, rfl, ⟨zx, rfl⟩, _, rfl, _, _, rfl, rfl, _, _, rfl, rfl, _, _, rfl, rfl, _, _, _, rfl, rfl, zy, (by show atI _ ((y.length : Int) - ((x.length : Int) - ((x.length : Int) - j)) - 1) = _; rw [iy]; exact atI_nat (j := y.length - 1 - j) gy), rfl, _, rfl, ?_⟩
            refine ite2 (fun h3 => ?_) (fun h3 => ?_)
            · have e2 : (TL.tl x)[x.length - 1 - j]'(by omega) = (TL.tl y)[y.length - 1 - j]'(by omega) := by
                have e3 := of_decide_eq_true h3
                simpa using e3
              rw [← e2] at gY
              refine ⟨_, fun σ' H' h => h, _, rfl, _, _, rfl, rfl, ?_⟩
              refine ⟨x.length - (j + 1), by omega, j + 1, ?_, rfl, rfl, lcp_more hl gX gY, by omega, by omega⟩
              have e5 : (x.length : Int) - j - 1 = (x.length : Int) - ((j + 1 : Nat) : Int) := by omega
              rw [← e5]
              rfl
            · exact out (lcp_end hl gX gY fun z => h3 (decide_eq_true (by rw [z])))
          · have h2 : ¬ (B : Int) < (y.length : Int) - ((x.length : Int) - ((x.length : Int) - j)) := fun z => h2 (decide_eq_true z)
            exact out (lcp_end' hl fun z => by omega)
        · have h1 : ¬ (B : Int) < (x.length : Int) - j := fun z => h1 (decide_eq_true z)
          exact out (lcp_end' hl fun z => by omega)
      · rintro σ' G ⟨rfl, rfl⟩
        refine ⟨_, rfl, _, rfl, _, rfl, _, rfl, _, rfl, _, rfl, _, y.length, rfl, ⟨zy, rfl⟩, _, rfl, _, x.length, rfl, ⟨zx, rfl⟩, _, rfl, _, _, rfl, rfl, _, _, rfl, rfl, _, rfl, _, rfl, zy, by show 3 ≤ sizeLine; decide, fun p hp => ?_⟩
        refine k _ _ (same_new hp) ?_
        have e6 : (y.length : Int) - ((x.length : Int) - ((x.length : Int) - sameB (TL.tl x) (TL.tl y))) = (y.length : Int) - sameB (TL.tl x) (TL.tl y) := by omega
        have e7 : (fun i j : Int => V.int (i - j)) = fun i j => V.int (i - j) := rfl
        refine .tup upd_same (.cons (.int _) (.cons (.int _) (.cons ?_ .nil)))
        rw [e6]
        exact .str _

/-- the change that takes a change back -/
def bkC (t : Str) (x : Ch) : Ch := ⟨x.b, x.b + x.s.length, cutS t (some x.b) (some x.e)⟩
theorem chg_back {t : Str} {x : Ch} (h : ChDr t.length x) (he : x.e ≤ t.length) : chg (chg t x) (bkC t x) = t ∧ ¬ ((chg t x).length : Int) < x.b + x.s.length := by
  obtain ⟨⟨b, e, s⟩, rfl⟩ : ∃ y, x = y := ⟨x, rfl⟩
  obtain ⟨⟨b0, b1⟩, ⟨e0, e1⟩, _, _⟩ := h
  dsimp only at b0 b1 e0 e1 he
  obtain ⟨b, rfl⟩ := Int.eq_ofNat_of_zero_le b0
  obtain ⟨e, rfl⟩ := Int.eq_ofNat_of_zero_le (show 0 ≤ e by omega)
  have et := str_len t
  have tc : TL.tl (chg t ⟨b, e, s⟩) = (TL.tl t).take b ++ TL.tl s ++ (TL.tl t).drop e := by
    show TL.tl (cutS t none (some (b : Int)) ++ s ++ cutS t (some (e : Int)) none) = _
    rw [tl_cat, tl_cat, tl_upto, tl_from]
  have hb : ((TL.tl t).take b).length = b := by
    rw [List.length_take]
    omega
  have hs := str_len s
  constructor
  · apply tl_inj
    show TL.tl (cutS (chg t ⟨b, e, s⟩) none (some (b : Int)) ++ cutS t (some (b : Int)) (some (e : Int)) ++ cutS (chg t ⟨b, e, s⟩) (some ((b : Int) + s.length)) none) = TL.tl t
    have i1 : (b : Int) + s.length = ((b + s.length : Nat) : Int) := by omega
    rw [i1, tl_cat, tl_cat, tl_upto, tl_from, tl_part t b e (by omega), tc]
    have z1 : ((TL.tl t).take b ++ TL.tl s ++ (TL.tl t).drop e).take b = (TL.tl t).take b := by
      rw [List.append_assoc, List.take_append_of_le_length (by omega), List.take_of_length_le (by omega)]
    have z2 : ((TL.tl t).take b ++ TL.tl s ++ (TL.tl t).drop e).drop (b + s.length) = (TL.tl t).drop e := by
      rw [List.drop_append_of_le_length (by rw [List.length_append]; omega), List.drop_of_length_le (by rw [List.length_append]; omega), List.nil_append]
    rw [z1, z2]
    have z3 : (TL.tl t).take b ++ ((TL.tl t).take e).drop b = (TL.tl t).take e := by
      have q := List.take_append_drop b ((TL.tl t).take e)
      rw [List.take_take, Nat.min_eq_left (by omega)] at q
      exact q
    rw [z3, List.take_append_drop]
  · show ¬ ((chg t ⟨b, e, s⟩).length : Int) < (b : Int) + s.length
    rw [str_len (chg t ⟨b, e, s⟩), tc, List.length_append, List.length_append]
    omega

theorem same_putA {H H' : Hp} {p p2 : Addr} {o u : HO} (s : Same H H') (np : H p = none) (n2 : H' p2 = none) : Same H (upd (upd H' p2 o) p u) := fun b x hb => by
  rw [upd_ne (ne_of_none hb np), upd_ne (ne_of_none (s b x hb) n2)]
  exact s b x hb
def prD (p : Nat × Nat) : PyData := .tuple [.int p.1, .int p.2]
def spAllB : Sp := fun vs H Q _ => ∃ (x y : Str), vs = [.str x, .str y] ∧ x.length ≤ 20 ∧ y.length ≤ 20 ∧
  ∀ (p : Addr) (xs : List V) (ps : List (Nat × Nat)) (H' : Hp), Same H H' → H' p = some (.lst xs) → TrAll H' xs (ps.map prD) → (∀ b e, (b, e) ∈ ps ↔ Leads (TL.tl x) (TL.tl y) b e) → ps.length ≤ 1000 → Q (.ref p) H'
theorem leads_made {x y : Str} {b e : Nat} (he : e ≤ x.length) (hb : b ≤ e) (h1 : 0 ≤ (y.length : Int) - b - ((x.length : Int) - e)) (h2 : cutS x none (some (b : Int)) = cutS y none (some (b : Int)))
    (h3 : cutS x (some (e : Int)) none = cutS y (some ((b : Int) + ((y.length : Int) - b - ((x.length : Int) - e)))) none) : Leads (TL.tl x) (TL.tl y) b e := by
  have ex := str_len x
  have ey := str_len y
  have i3 : (b : Int) + ((y.length : Int) - b - ((x.length : Int) - e)) = ((y.length - (x.length - e) : Nat) : Int) := by omega
  rw [i3] at h3
  have h2 := congrArg TL.tl h2
  have h3 := congrArg TL.tl h3
  rw [tl_upto, tl_upto] at h2
  rw [tl_from, tl_from, ex, ey] at h3
  exact ⟨hb, by omega, by omega, h2, h3⟩
theorem leads_then {x y : Str} {b e : Nat} (h : Leads (TL.tl x) (TL.tl y) b e) : 0 ≤ (y.length : Int) - b - ((x.length : Int) - e) ∧ cutS x none (some (b : Int)) = cutS y none (some (b : Int)) ∧
    cutS x (some (e : Int)) none = cutS y (some ((b : Int) + ((y.length : Int) - b - ((x.length : Int) - e)))) none := by
  have ex := str_len x
  have ey := str_len y
  obtain ⟨h1, h2, h3, h4, h5⟩ := h
  have i3 : (b : Int) + ((y.length : Int) - b - ((x.length : Int) - e)) = ((y.length - (x.length - e) : Nat) : Int) := by omega
  refine ⟨by omega, tl_inj ?_, ?_⟩
  · rw [tl_upto, tl_upto]
    exact h4
  · rw [i3]
    refine tl_inj ?_
    rw [tl_from, tl_from, ex, ey]
    exact h5
theorem c_l_all_between (T : Txt K mg w) : Cal P w K mg base 1 "_law_all_between" spAllB [] := by
  refine calOf T.d_l_all_between sc_l_all_between (fun vs H Q E h => ?_) (fun f cdv A outer s H vs Q E hr h => ?_)
  · obtain ⟨x, y, rfl, _⟩ := h
    rfl
  · obtain ⟨x, y, rfl, lx, ly, k⟩ := h
    have zx : x.length ≤ sizeLine := Nat.le_trans lx (by decide)
    have zy : y.length ≤ sizeLine := Nat.le_trans ly (by decide)
    have ex := str_len x
    refine ⟨_,
      (pss_cons (ps_set (i := 2) sc_l_all_between.nd rfl (Or.inl rfl) (pe_lst pa_nil))
        (pss_cons (ps_for PassesOwn.never rfl (pi_range1 (by rfl) T.n_range (pa_cons (pe_op op_add (pe_callB call_len (by rfl) T.n_len PySem.boot_len (pa_cons (pv 0) pa_nil)) pe_int) pa_nil)) (pg_name (i := 3) sc_l_all_between.nd rfl (Or.inl rfl))
        (pss_one (ps_for PassesOwn.never rfl (pi_range2 (by rfl) T.n_range (pa_cons (pv 3) (pa_cons (pe_op op_add (pe_callB call_len (by rfl) T.n_len PySem.boot_len (pa_cons (pv 0) pa_nil)) pe_int) pa_nil))) (pg_name (i := 4) sc_l_all_between.nd rfl (Or.inl rfl))
        (pss_cons (ps_set (i := 5) sc_l_all_between.nd rfl (Or.inl rfl) (pe_op op_sub (pe_op op_sub (pe_callB call_len (by rfl) T.n_len PySem.boot_len (pa_cons (pv 1) pa_nil)) (pv 3)) (pe_op op_sub (pe_callB call_len (by rfl) T.n_len PySem.boot_len (pa_cons (pv 0) pa_nil)) (pv 4))))
        (pss_one (ps_if (PW.pt (pw_and (pt_cmpR op_ge (pv 5) pe_int (nomark _)) (pw_and (pt_cmpR op_eq (pe_slice sl_str (pv 0) po_none (po_some (pv 3))) (pe_slice sl_str (pv 1) po_none (po_some (pv 3))) (nomark _)) (pw_and1 (pt_cmpR op_eq (pe_slice sl_str (pv 0) (po_some (pv 4)) po_none) (pe_slice sl_str (pv 1) (po_some (pe_op op_add (pv 3) (pv 5))) po_none) (nomark _))))))
        (pss_one (ps_expr (pe_bm PySem.F.plainAttrs_list PySem.F.slot_list_append PySem.F.type_list_append mt_append (pv 2) (pa_cons (pe_tup (pa_cons (pv 3) (pa_cons (pv 4) pa_nil))) pa_nil))))
        pss_nil))))))
        (pss_one (ps_ret (pv 2)))))
      , ?_⟩
    refine ⟨by decide, fun p hp => ?_⟩
    refine ⟨_, rfl, _, x.length, rfl, ⟨zx, rfl⟩, _, _, rfl, rfl, _, rfl, by omega, by omega, ?_⟩
    refine for_range (lo := 0) (n := ((x.length : Int) + 1).toNat) (fun i σ H' => ∃ (v3 v4 v5 : Option V) (xs : List V) (ps : List (Nat × Nat)), σ = [some (.str x), some (.str y), some (.ref p), v3, v4, v5] ∧ Same H H' ∧ H' p = some (.lst xs) ∧ TrAll H' xs (ps.map prD) ∧
      (∀ b e, (b, e) ∈ ps ↔ b < i ∧ Leads (TL.tl x) (TL.tl y) b e) ∧ ps.length ≤ i * 21) ⟨none, none, none, [], [], rfl, same_new hp, upd_same, .nil, by simp, Nat.le_refl _⟩ ?_ ?_
    · rintro i σ H1 hi ⟨v3, v4, v5, xs, ps, rfl, s1, h1, t1, m1, l1⟩
      refine ⟨_, rfl, _, rfl, _, x.length, rfl, ⟨zx, rfl⟩, _, _, rfl, rfl, _, _, rfl, ⟨by omega, by omega, by omega, by omega⟩, ?_⟩
      refine for_range (lo := 0 + (i : Int)) (n := ((x.length : Int) + 1 - (0 + (i : Int))).toNat) (fun j σ H' => ∃ (v4 v5 : Option V) (xs : List V) (ps : List (Nat × Nat)), σ = [some (.str x), some (.str y), some (.ref p), some (.int (0 + (i : Nat))), v4, v5] ∧ Same H H' ∧ H' p = some (.lst xs) ∧ TrAll H' xs (ps.map prD) ∧
        (∀ b e, (b, e) ∈ ps ↔ (b < i ∨ (b = i ∧ e < i + j)) ∧ Leads (TL.tl x) (TL.tl y) b e) ∧ ps.length ≤ i * 21 + j) ⟨v4, v5, xs, ps, rfl, s1, h1, t1, fun b e => ?_, l1⟩ ?_ ?_
      · rw [m1]
        constructor
        · rintro ⟨a1, a2⟩
          exact ⟨.inl a1, a2⟩
        · rintro ⟨a1, a2⟩
          have := a2.1
          exact ⟨by omega, a2⟩
      · rintro j σ H2 hj ⟨v4, v5, xs, ps, rfl, s2, h2, t2, m2, l2⟩
        have e0 : (0 : Int) + (i : Nat) = i := Int.zero_add _
        have e1 : (i : Int) + (j : Nat) = ((i + j : Nat) : Int) := by omega
        rw [e0, e1]
        have he : i + j ≤ x.length := by omega
        refine ⟨_, rfl, _, y.length, rfl, ⟨zy, rfl⟩, _, rfl, _, _, rfl, rfl, _, rfl, _, x.length, rfl, ⟨zx, rfl⟩, _, rfl, _, _, rfl, rfl, _, _, rfl, rfl, ?_⟩
        have stay : ¬ Leads (TL.tl x) (TL.tl y) i (i + j) → ∃ (v4' v5' : Option V) (xs' : List V) (ps' : List (Nat × Nat)), ([some (.str x), some (.str y), some (.ref p), some (.int (i : Nat)), some (.int ((i + j : Nat) : Int)), some (.int ((y.length : Int) - i - ((x.length : Int) - ((i + j : Nat) : Int))))] : List (Option V)) = [some (.str x), some (.str y), some (.ref p), some (.int (i : Nat)), v4', v5'] ∧ Same H H2 ∧ H2 p = some (.lst xs') ∧ TrAll H2 xs' (ps'.map prD) ∧
            (∀ b e, (b, e) ∈ ps' ↔ (b < i ∨ (b = i ∧ e < i + (j + 1))) ∧ Leads (TL.tl x) (TL.tl y) b e) ∧ ps'.length ≤ i * 21 + (j + 1) := fun no => by
          refine ⟨_, _, xs, ps, rfl, s2, h2, t2, fun b e => ?_, by omega⟩
          rw [m2]
          constructor
          · rintro ⟨a1, a2⟩
            exact ⟨by omega, a2⟩
          · rintro ⟨a1, a2⟩
            refine ⟨?_, a2⟩
            by_cases c : b = i ∧ e = i + j
            · obtain ⟨rfl, rfl⟩ := c
              exact absurd a2 no
            · omega
        refine ⟨_, rfl, _, _, rfl, rfl, _, rfl, ?_⟩
        refine ite2 (fun c1 => ?_) (fun c1 => ?_)
        · have c1 : 0 ≤ (y.length : Int) - i - ((x.length : Int) - ((i + j : Nat) : Int)) := of_decide_eq_true c1
          refine ⟨_, rfl, _, rfl, _, rfl, _, rfl, zx, _, rfl, _, rfl, _, rfl, _, rfl, zy, rfl, _, rfl, ?_⟩
          refine ite2 (fun c2 => ?_) (fun c2 => ?_)
          · have c2 : cutS x none (some (i : Int)) = cutS y none (some (i : Int)) := V.str.inj (of_decide_eq_true c2)
            refine ⟨_, rfl, _, rfl, _, rfl, _, rfl, zx, _, rfl, _, rfl, _, rfl, _, _, rfl, rfl, _, rfl, _, rfl, zy, rfl, _, rfl, ?_⟩
            refine ite2 (fun c3 => ?_) (fun c3 => ?_)
            · have c3 : cutS x (some ((i + j : Nat) : Int)) none = cutS y (some ((i : Int) + ((y.length : Int) - i - ((x.length : Int) - ((i + j : Nat) : Int))))) none := V.str.inj (of_decide_eq_true c3)
              have yes := leads_made he (Nat.le_add_right i j) c1 c2 c3
              refine ⟨_, rfl, .inl ⟨rfl, _, SqL.of h2⟩, _, rfl, _, rfl, by show 2 ≤ sizeLine; decide, fun q hq => ?_⟩
              refine ⟨p, xs, .ref q, rfl, rfl, upd_some h2 hq, ?_, ?_⟩
              · rw [t2.len, List.length_map]
                exact Nat.lt_of_le_of_lt (show _ ≤ 1000 by omega) (by decide)
              have nt' : ∀ ys, upd H2 q (.tup [.int (i : Nat), .int ((i + j : Nat) : Int)]) p ≠ some (.tup ys) := fun ys h => by
                rw [upd_some h2 hq] at h
                cases h
              refine ⟨_, _, xs ++ [.ref q], ps ++ [(i, i + j)], rfl, same_putA s2 hp hq, upd_same, ?_, fun b e => ?_, by rw [List.length_append]; show ps.length + 1 ≤ _; omega⟩
              · rw [List.map_append]
                exact TrAll.app ((t2.new hq).keep ((Tk.refl _).put nt')) (.one ((Tr.tup (upd_same (o := .tup [.int (i : Nat), .int ((i + j : Nat) : Int)])) (.cons (.int _) (.cons (.int _) .nil))).keep ((Tk.refl _).put nt')))
              · rw [List.mem_append, m2, List.mem_singleton, Prod.mk.injEq]
                constructor
                · rintro (⟨a1, a2⟩ | ⟨rfl, rfl⟩)
                  · exact ⟨by omega, a2⟩
                  · exact ⟨.inr ⟨rfl, by omega⟩, yes⟩
                · rintro ⟨a1, a2⟩
                  by_cases c : b = i ∧ e = i + j
                  · exact .inr c
                  · exact .inl ⟨by omega, a2⟩
            · refine stay fun z => c3 (decide_eq_true ?_)
              exact congrArg V.str (leads_then z).2.2
          · refine stay fun z => c2 (decide_eq_true ?_)
            exact congrArg V.str (leads_then z).2.1
        · exact stay fun z => c1 (decide_eq_true (leads_then z).1)
      · rintro σ H2 ⟨v4, v5, xs, ps, rfl, s2, h2, t2, m2, l2⟩
        refine ⟨_, _, _, xs, ps, rfl, s2, h2, t2, fun b e => ?_, by omega⟩
        rw [m2]
        constructor
        · rintro ⟨a1, a2⟩
          exact ⟨by omega, a2⟩
        · rintro ⟨a1, a2⟩
          have := a2.2.1
          exact ⟨by omega, a2⟩
    · rintro σ H1 ⟨v3, v4, v5, xs, ps, rfl, s1, h1, t1, m1, l1⟩
      refine ⟨_, rfl, k p xs ps H1 s1 h1 t1 (fun b e => ?_) (by omega)⟩
      rw [m1]
      constructor
      · rintro ⟨_, a2⟩
        exact a2
      · intro a2
        have := a2.1
        have := a2.2.1
        exact ⟨by omega, a2⟩

theorem betw_leads (x y : Str) : Leads (TL.tl x) (TL.tl y) (begB (TL.tl x) (TL.tl y)) ((TL.tl x).length - sameB (TL.tl x) (TL.tl y)) := leads_all _ _
theorem chg_betw (x y : Str) : chg x (betw x y) = y ∧ ¬ ((x.length : Int) < (betw x y).e) := by
  have a := sameB_le (TL.tl x) (TL.tl y)
  have ex := str_len x
  have ey := str_len y
  obtain ⟨_, _, _, h4, h5⟩ := betw_leads x y
  constructor
  · apply tl_inj
    show TL.tl (cutS x none (some (begB (TL.tl x) (TL.tl y) : Int)) ++ cutS y (some (begB (TL.tl x) (TL.tl y) : Int)) (some ((y.length : Int) - sameB (TL.tl x) (TL.tl y))) ++ cutS x (some ((x.length : Int) - sameB (TL.tl x) (TL.tl y))) none) = TL.tl y
    have i1 : (x.length : Int) - sameB (TL.tl x) (TL.tl y) = (((TL.tl x).length - sameB (TL.tl x) (TL.tl y) : Nat) : Int) := by omega
    have i2 : (y.length : Int) - sameB (TL.tl x) (TL.tl y) = (((TL.tl y).length - sameB (TL.tl x) (TL.tl y) : Nat) : Int) := by omega
    rw [i1, i2, tl_cat, tl_cat, tl_upto, tl_from, tl_part _ _ _ (by omega), h4, h5]
    rw [show (TL.tl x).length - ((TL.tl x).length - sameB (TL.tl x) (TL.tl y)) = sameB (TL.tl x) (TL.tl y) by omega]
    generalize sameB (TL.tl x) (TL.tl y) = S at *
    generalize begB (TL.tl x) (TL.tl y) = B at *
    have q := List.take_append_drop B ((TL.tl y).take ((TL.tl y).length - S))
    rw [List.take_take, Nat.min_eq_left (by omega)] at q
    rw [q, List.take_append_drop]
  · show ¬ ((x.length : Int) < (x.length : Int) - sameB (TL.tl x) (TL.tl y))
    omega
theorem betw_ok {x y : Str} (lx : x.length ≤ 20) (ly : y.length ≤ 20) (ny : Nice y) : ChOk (betw x y) := by
  have a := begB_le (TL.tl x) (TL.tl y)
  have b := sameB_le (TL.tl x) (TL.tl y)
  have ex := str_len x
  refine ⟨?_, ?_, Nat.le_trans (cutS_length _ _ _) (by omega), ny.cut _ _⟩
  · show ((begB (TL.tl x) (TL.tl y) : Nat) : Int).natAbs ≤ 1000
    omega
  · show ((x.length : Int) - sameB (TL.tl x) (TL.tl y)).natAbs ≤ 1000
    omega
theorem pair_at {H : Hp} {xs : List V} {ps : List (Nat × Nat)} (t : TrAll H xs (ps.map prD)) {i : Nat} {y : V} (h : xs[i]? = some y) : ∃ r q, ps[i]? = some r ∧ y = .ref q ∧ H q = some (.tup [.int r.1, .int r.2]) := by
  obtain ⟨d, hd, ty⟩ := t.get h
  rw [List.getElem?_map] at hd
  obtain ⟨r, hr, rfl⟩ := Option.map_eq_some_iff.mp hd
  unfold prD at ty
  cases ty with
  | tup h1 r1 =>
    cases r1 with
    | cons h2 r1 =>
      cases h2
      cases r1 with
      | cons h3 r1 =>
        cases h3
        cases r1
        exact ⟨r, _, hr, rfl, h1⟩

open LamX (CodeO TabS Tabs ExtN TabB GivesTo LamS lamEnv lamCx tLam)
theorem pe_heard {X : Cx} {T : List (Addr × Str)} {C fI c P' : Addr} {k : Nat} {params : Arguments} {body : Expr} {scope : Scope} {t : XK → TE} {p lpos pos : Pos} {q : Str} (hq : X.env.qual = q)
    (HD : DefIn X.K X.mg "_law_heard" s_l_heard ["_law_act"]) (TX : XcT X.K X.mg "NoChange" "change" C fI) (hg : Gl X "_law_heard") (TB : TabB X.base X.mg c P') (hcode : X.env.code = .ref c)
    (hmT : (P', q ++ "<lambda>") ∈ T) (hu : ∀ p ∈ T, p.1 = P' → p.2 = q ++ "<lambda>") (hr : Room (k + 2) X.A) (L : LamS X.env.scope scope) (hdef : defaultsOf params X.env = ([], []))
    (hbind : ∀ (q : Str) (cl : List (Str × Addr)) (pm cv ctv : Value), bindArgs (PySem.W.kla_fn "<lambda>" q params body scope cl pm cv ctv) ⟨[], []⟩ = pure [])
    (hbody : ∀ (A : Around) (outer : List Env) (s : Shared) (H : Hp) (E : XK) (f c' : Addr), Room k (A.deeper (lamEnv X scope s.heap.objs.size f c')) → PE (lamCx X A outer s H E scope f c') body (t E)) :
    PE X (.Call (.Name "_law_heard" p) [.Lambda params body scope lpos] [] pos) (tLam T (TTheard C) t) := by
  subst hq
  obtain ⟨f, fd, F, hm, hb⟩ := HD.ex
  obtain ⟨oc, od, kV, doc, pm, an, cdv, ct, osl, rfl, lk, hcd⟩ := F.ex
  exact LamX.pe_lamcall hg hm F.kp lk hcd hb sc_l_heard rfl (.inl rfl) (heard_gives TX) TB hcode hmT hu hr L hdef hbind hbody
/-- kept: all but the bag and the tables -/
structure Kpt (T : List (Addr × Str)) (g : Bg) (H H' : Hp) : Prop where
  bag : Bag H' g 0 0
  tb : Tabs T H'
  kp : ∀ a o, a ≠ g.b → (∀ ps, o ≠ .tbl ps) → H a = some o → H' a = some o
section
variable {T : List (Addr × Str)} {g : Bg} {H H1 H2 : Hp} {a p : Addr} {o : HO}
theorem Kpt.refl (B : Bag H g 0 0) (t : Tabs T H) : Kpt T g H H := ⟨B, t, fun _ _ _ _ h => h⟩
theorem Kpt.trans (x : Kpt T g H H1) (y : Kpt T g H1 H2) : Kpt T g H H2 := ⟨y.bag, y.tb, fun a o n m h => y.kp a o n m (x.kp a o n m h)⟩
theorem Kpt.drawn (x : Kpt T g H H1) (D : Drawn g H1 H2 0 0) : Kpt T g H H2 := ⟨D.bag, Tabs.drawn x.tb x.bag D, fun a o n m h => D.fr a o n (x.kp a o n m h)⟩
theorem Kpt.same (x : Kpt T g H H1) (s : Same H1 H2) : Kpt T g H H2 := ⟨x.bag.same s, x.tb.ext s, fun a o n m h => s a o (x.kp a o n m h)⟩
theorem Kpt.new (x : Kpt T g H H1) (n : H1 p = none) : Kpt T g H (upd H1 p o) := x.same (same_new n)
theorem Kpt.ext (x : Kpt T g H H1) (e : ExtN H1 H2) (t : Tabs T H2) : Kpt T g H H2 := ⟨Bag.ext x.bag e, t, fun a o n m h => e a o (x.kp a o n m h) m⟩
theorem Kpt.lst {xs : List V} (x : Kpt T g H H1) (n : a ≠ g.b) (h : H a = some (.lst xs)) : H1 a = some (.lst xs) := x.kp a _ n (fun ps z => by cases z) h
theorem Kpt.tk (x : Kpt T g H H1) (B : Bag H g 0 0) : Tk H H1 := fun a xs h => x.kp a _ (fun z => by
  obtain ⟨ob, hb⟩ := B.ob
  rw [z, hb] at h
  cases h) (fun ps z => by cases z) h
/-- a store at what H did not know -/
theorem Kpt.put (x : Kpt T g H H1) (B : Bag H g 0 0) (t : Tabs T H) (n : H p = none) (nl : ∃ ys, H1 p = some (.lst ys)) : Kpt T g H (upd H1 p o) := by
  obtain ⟨ys, hl⟩ := nl
  refine ⟨x.bag.put (B.ne_new n) (B.ne_newL n), fun q hq => ?_, fun a u na m h => ?_⟩
  · obtain ⟨ps, h1, tri, k⟩ := x.tb q hq
    have keep : ∀ {a : Addr} {u : HO}, H1 a = some u → (∀ zs, u ≠ .lst zs) → upd H1 p o a = some u := fun {a u} ha nn => by
      rw [upd_ne (fun z => by
        rw [z, hl] at ha
        exact nn _ (Option.some.inj ha).symm)]
      exact ha
    refine ⟨ps, keep h1 (fun zs z => by cases z), tri, fun pos cv hc => ?_⟩
    obtain ⟨c1, e1, e2⟩ := k pos cv hc
    exact ⟨c1, e1, keep e2 (fun zs z => by unfold CodeO at z; cases z)⟩
  · rw [upd_ne (ne_of_none h n)]
    exact x.kp a u na m h
end
theorem by_at {H : Hp} {pd : Addr} {z : Ch ⊕ Str} (t : Tr H (.ref pd) (byD z)) : (∃ u, z = .inr u ∧ H pd = some (.tup [.str "told", .str u])) ∨ ∃ c v, z = .inl c ∧ H pd = some (.tup [.str "none", v]) ∧ Tr H v (chD c) := by
  cases z with
  | inl c =>
    unfold byD at t
    cases t with
    | tup h r =>
      cases r with
      | cons h1 r =>
        cases h1
        cases r with
        | cons h2 r =>
          cases r
          exact .inr ⟨c, _, rfl, h, h2⟩
  | inr u =>
    unfold byD at t
    cases t with
    | tup h r =>
      cases r with
      | cons h1 r =>
        cases h1
        cases r with
        | cons h2 r =>
          cases h2
          cases r
          exact .inl ⟨u, rfl, h⟩
def longR (i : Nat) (z : Ch ⊕ Str) : Prop := match z with
  | .inl _ => True
  | .inr u => Long i u
theorem goBy_mem : ∀ {cs : List Ch} {t : Str} {c : Ch}, goBy t cs = .inl c → c ∈ cs
  | [], t, c, h => by cases h
  | x :: r, t, c, h => by
    have h : (if (t.length : Int) < x.e then Sum.inl x else goBy (chg t x) r) = .inl c := h
    split at h
    · cases h
      exact List.mem_cons_self ..
    · exact List.mem_cons_of_mem _ (goBy_mem h)
theorem byD_ok {n : Nat} {t : Str} {cs : List Ch} (hn : n ≤ 4) (ok : ∀ c ∈ cs, ChOk c) (l : longR n (goBy t cs)) : OkD (byD (goBy t cs)) := by
  cases e : goBy t cs with
  | inl c =>
    obtain ⟨a1, a2, a3⟩ := chD_ok (ok c (goBy_mem e))
    refine ⟨?_, ?_, ?_⟩
    · show (tame (.str "none") && (tame (chD c) && true)) = true
      rw [a1, show tame (.str "none") = true by decide +kernel] <;> rfl
    · show max 0 (max (chD c).depth 0) + 1 ≤ 60
      rw [a2]
      decide
    · show 10 * ("none" : Str).length + 2 + 2 + (wt (chD c) + 2 + 0) + 4 ≤ 16000000
      rw [show (("none" : Str)).length = 4 from rfl]
      omega
  | inr u =>
    rw [e] at l
    have l : Long n u := l
    have ll := l.l
    have p4 := pow4 hn
    refine ⟨?_, Nat.le_trans (Nat.le_refl 1) (by decide), ?_⟩
    · show (tame (.str "told") && (tame (.str u) && true)) = true
      rw [l.n.tame, show tame (.str "told") = true by decide +kernel] <;> rfl
    · show 10 * ("told" : Str).length + 2 + 2 + (10 * u.length + 2 + 2 + 0) + 4 ≤ 16000000
      rw [show (("told" : Str)).length = 4 from rfl]
      omega
def spRows (T : List (Addr × Str)) : Sp := fun vs H Q _ => ∃ (g : Bg) (t : Str), vs = [.ref g.b, .str t] ∧ Bag H g 0 0 ∧ Long 0 t ∧ Tabs T H ∧ ∀ H', Kpt T g H H' → Q (.bl true) H'
theorem c_l_rows_right {C fI c2 P2 : Addr} {Tl : List (Addr × Str)} (T : Txt K mg w) (D : DefK K mg "_law_rows_right" s_l_rows_right ["_law_bag_here", "_law_text"] c2) (TX : XcT K mg "NoChange" "change" C fI) (TB : TabB base mg c2 P2)
    (mT : (P2, ("_law_rows_right" : Str) ++ ".<locals>." ++ "<lambda>") ∈ Tl) (uT : ∀ p ∈ Tl, p.1 = P2 → p.2 = ("_law_rows_right" : Str) ++ ".<locals>." ++ "<lambda>")
    (c_l_take : Cal P w K mg base 1 "_law_take" spTake []) (c_l_one : Cal P w K mg base 2 "_law_one" (spOne K) []) (c_l_drawn_change : Cal P w K mg base 3 "_law_drawn_change" spDrC [])
    (c_l_changed : Cal P w K mg base 1 "_law_changed" spChL []) (c_p_changed_by : CalX P w K mg base 4 "changed_by" ["text", "changes"] (spByX K C)) (c_l_alike : CalG P w K mg base 1 "_law_alike" (spAlike2 K)) :
    CalG P w K mg base 7 "_law_rows_right" (spRows Tl) := by
  refine calGOfK D sc_l_rows_right (fun vs H Q E h => ?_) (fun f A outer s H vs Q E hr gd h => ?_)
  · obtain ⟨g, t, rfl, _⟩ := h
    rfl
  · obtain ⟨g, t, rfl, B0, lt, T0, k⟩ := h
    have hu := hr.units
    have HD := T.d_l_heard
    refine ⟨_,
      (pss_cons (ps_par (i := 2) (j := 3) (by rfl) sc_l_rows_right.nd rfl rfl (by decide) rfl rfl (pa_cons (pe_lst pa_nil) (pa_cons (pe_tup (pa_cons pe_str (pa_cons (pv 1) pa_nil))) pa_nil)) (by rfl))
        (pss_cons (ps_for PassesOwn.never rfl (pi_range1 (by rfl) T.n_range (pa_cons (pe_c c_l_take hr (by first | decide | omega) rfl (pa_cons (pv 0) (pa_cons pe_int pa_nil))) pa_nil)) (pg_name (i := 4) sc_l_rows_right.nd rfl (Or.inl rfl))
        (pss_cons (ps_set (i := 5) sc_l_rows_right.nd rfl (Or.inl rfl) (pe_c c_l_drawn_change hr (by first | decide | omega) rfl (pa_cons (pv 0) (pa_cons (pe_ifExp (pt_cmpR op_eq (pe_ix ix_tup (pv 3) pe_int (fun _ _ => rfl)) pe_str (nomark _)) (pe_callB call_len (by rfl) T.n_len PySem.boot_len (pa_cons (pe_ix ix_tup (pv 3) pe_int (fun _ _ => rfl)) pa_nil)) pe_int) pa_nil))))
        (pss_cons (ps_expr (pe_bm PySem.F.plainAttrs_list PySem.F.slot_list_append PySem.F.type_list_append mt_append (pv 2) (pa_cons (pv 5) pa_nil)))
        (pss_one (ps_if (pt_cmpR op_eq (pe_ix ix_tup (pv 3) pe_int (fun _ _ => rfl)) pe_str (nomark _))
        (pss_one (ps_set (i := 3) sc_l_rows_right.nd rfl (Or.inl rfl) (pe_ifExp (pt_cmpR op_le (pe_ix ix_tup (pv 5) pe_int (fun _ _ => rfl)) (pe_callB call_len (by rfl) T.n_len PySem.boot_len (pa_cons (pe_ix ix_tup (pv 3) pe_int (fun _ _ => rfl)) pa_nil)) (nomark _)) (pe_tup (pa_cons pe_str (pa_cons (pe_c c_l_changed hr (by first | decide | omega) rfl (pa_cons (pe_ix ix_tup (pv 3) pe_int (fun _ _ => rfl)) (pa_cons (pv 5) pa_nil))) pa_nil))) (pe_tup (pa_cons pe_str (pa_cons (pv 5) pa_nil))))))
        pss_nil)))))
        (pss_cons (ps_asg (pe_tup (pa_cons (pe_c c_l_one hr (by first | decide | omega) rfl (pa_cons (pv 0) (pa_cons (pe_lst (pa_cons (pv 2) (pa_cons (pe_callTy call_tuple_of (by rfl) T.n_tuple (by decide +kernel) (pa_cons (pv 2) pa_nil)) pa_nil))) pa_nil))) (pa_cons (pe_callB (call_repr2 gd hu) (by rfl) T.n_repr (by decide +kernel) (pa_cons (pv 2) pa_nil)) pa_nil))) (pg_tup rfl (pgs_cons (pg_name (i := 7) sc_l_rows_right.nd rfl (Or.inr rfl)) (pgs_cons (pg_name (i := 6) sc_l_rows_right.nd rfl (Or.inl rfl)) pgs_nil))))
        (pss_one (ps_ret (pe_and (pe_cG c_l_alike (hr.mono (by decide)) gd rfl (pa_cons (by exact pe_heard (q := ("_law_rows_right" : Str) ++ ".<locals>.") rfl HD TX rfl TB rfl mT uT (k := 4) (hr.mono (by decide)) (LamX.lamS_by (by show LamX.lamSB (defScope s_l_rows_right) _ = true; decide +kernel)) rfl (fun _ _ _ _ _ => rfl) (fun A outer s H E f c' hr2 => pe_cX c_p_changed_by hr2 (by decide) rfl (takes_of rfl rfl rfl rfl) (pa_cons (pe_var (i := 1) rfl (.inr (.inr rfl)) (by decide) (by decide)) (pa_cons (pe_var (i := 7) rfl (.inr (.inr rfl)) (by decide) (by decide)) pa_nil)))) (pa_cons (pv 3) pa_nil))) (pe_one (pe_cmpR op_eq (pe_callB (call_repr2 gd hu) (by rfl) T.n_repr (by decide +kernel) (pa_cons (pv 2) pa_nil)) (pv 6) (nomark _)))))))))
      , ?_⟩
    -- the row, and what is due
    refine ⟨by decide, fun pr hpr => ⟨_, rfl, by show 2 ≤ sizeLine; decide, fun pd hpd => ⟨_, _, rfl, ?_⟩⟩⟩
    have npr := B0.ne_new hpr
    have K0 : Kpt Tl g H (upd (upd H pr (.lst [])) pd (.tup [.str "told", .str t])) := ((Kpt.refl B0 T0).new hpr).new hpd
    have hr0 := upd_some (u := .tup [.str "told", .str t]) (upd_same (H := H) (a := pr) (o := .lst [])) hpd
    have hd0 : Tr (upd (upd H pr (.lst [])) pd (.tup [.str "told", .str t])) (.ref pd) (byD (goBy t [])) := .tup upd_same (.cons (.str _) (.cons (.str _) .nil))
    generalize upd (upd H pr (HO.lst [])) pd (HO.tup [V.str "told", V.str t]) = H1 at K0 hr0 hd0 ⊢
    refine ⟨_, rfl, g, 5, 0, 0, rfl, K0.bag, by decide, by decide, fun n H2 n0 n5 D2 => ⟨_, rfl, by omega, by omega, ?_⟩⟩
    refine for_range (lo := 0) (n := n.toNat) (fun i σ H' => ∃ (v4 v5 : Option V) (pd : Addr) (xs : List V) (cs : List Ch), σ = [some (.ref g.b), some (.str t), some (.ref pr), some (.ref pd), v4, v5, none, none] ∧ Kpt Tl g H H' ∧ H' pr = some (.lst xs) ∧ TrAll H' xs (cs.map chD) ∧
      (∀ c ∈ cs, ChOk c ∧ c.s.length ≤ 10) ∧ cs.length = i ∧ Tr H' (.ref pd) (byD (goBy t cs)) ∧ longR i (goBy t cs))
      ⟨none, none, pd, [], [], rfl, K0.drawn D2, D2.keep npr hr0, .nil, by simp, rfl, hd0.keep D2.tk, lt⟩ ?_ ?_
    · rintro i σ H3 hi ⟨v4, v5, pd, xs, cs, rfl, K3, h3, t3, ok, lc, td, ll⟩
      have i4 : i ≤ 4 := by omega
      have p4 := pow4 i4
      rcases by_at td with ⟨u, eu, hu3⟩ | ⟨c0, v0, eu, hu3, tv0⟩
      · rw [eu] at ll
        have ll : Long i u := ll
        have lu := ll.l
        have uz : u.length ≤ sizeLine := Nat.le_trans (show u.length ≤ 1000 by omega) (by decide)
        refine ⟨_, rfl, _, rfl, pd, _, _, _, rfl, rfl, SqT.of hu3, atI_nat (j := 0) rfl, rfl, _, rfl, ?_⟩
        rw [decide_eq_true rfl]
        refine iteT ?_
        refine ⟨_, rfl, pd, _, _, _, rfl, rfl, SqT.of hu3, atI_nat (j := 1) rfl, _, u.length, rfl, ⟨uz, rfl⟩, g, u.length, 0, 0, rfl, K3.bag, by omega, fun v x H4 cx tx D4 => ?_⟩
        obtain ⟨q, rfl, hq⟩ := ch_at tx
        have okx := cx.ok (show u.length ≤ 900 by omega)
        have K4 := K3.drawn D4
        have h4 := D4.keep npr h3
        refine ⟨_, rfl, .inl ⟨rfl, _, SqL.of h4⟩, _, rfl, pr, xs, _, rfl, rfl, h4, by rw [t3.len, List.length_map, lc]; exact Nat.lt_of_le_of_lt i4 (by decide), ?_⟩
        have nt' : ∀ ys, H4 pr ≠ some (.tup ys) := fun ys h => by
          rw [h4] at h
          cases h
        have tk5 : Tk H4 (upd H4 pr (.lst (xs ++ [.ref q]))) := (Tk.refl _).put nt'
        have hq5 := tk5 _ _ hq
        have hu5 := tk5 _ _ (D4.tk _ _ hu3)
        have h5 : upd H4 pr (.lst (xs ++ [.ref q])) pr = some (.lst (xs ++ [.ref q])) := upd_same
        have K5 : Kpt Tl g H (upd H4 pr (.lst (xs ++ [.ref q]))) := K4.put B0 T0 hpr ⟨_, h4⟩
        have t5 : TrAll (upd H4 pr (.lst (xs ++ [.ref q]))) (xs ++ [.ref q]) ((cs ++ [x]).map chD) := by
          rw [List.map_append]
          exact TrAll.app ((t3.keep D4.tk).keep tk5) (.one (tx.keep tk5))
        have ok5 : ∀ c ∈ cs ++ [x], ChOk c ∧ c.s.length ≤ 10 := fun c hc => by
          rcases List.mem_append.mp hc with h | h
          · exact ok c h
          · rw [List.mem_singleton.mp h]
            exact okx
        have lc5 : (cs ++ [x]).length = i + 1 := by rw [List.length_append, lc] <;> rfl
        generalize upd H4 pr (HO.lst (xs ++ [.ref q])) = H5 at *
        refine ⟨_, rfl, pd, _, _, _, rfl, rfl, SqT.of hu5, atI_nat (j := 0) rfl, rfl, _, rfl, ?_⟩
        rw [decide_eq_true rfl]
        refine iteT ?_
        refine ⟨_, rfl, q, _, _, _, rfl, rfl, SqT.of hq5, atI_nat (j := 1) rfl, _, rfl, pd, _, _, _, rfl, rfl, SqT.of hu5, atI_nat (j := 1) rfl, _, u.length, rfl, ⟨uz, rfl⟩, _, _, rfl, rfl, _, rfl, ?_⟩
        refine ite2 (fun c1 => ?_) (fun c1 => ?_)
        · have c1 : x.e ≤ (u.length : Int) := of_decide_eq_true c1
          refine ⟨_, rfl, pd, _, _, _, rfl, rfl, SqT.of hu5, atI_nat (j := 1) rfl, _, rfl, u, q, x, rfl, hq5, ⟨by omega, okx.1⟩, by show 2 ≤ sizeLine; decide, fun p hp => ?_⟩
          have eg : goBy t (cs ++ [x]) = .inr (chg u x) := by
            rw [goBy_snoc, eu]
            exact if_neg (by omega)
          refine ⟨_, _, p, xs ++ [.ref q], cs ++ [x], rfl, K5.new hp, upd_some h5 hp, t5.new hp, ok5, lc5, ?_, ?_⟩
          · rw [eg]
            exact .tup upd_same (.cons (.str _) (.cons (.str _) .nil))
          · rw [eg]
            exact chg_long ll okx.2 okx.1.n
        · have c1 : ¬ x.e ≤ (u.length : Int) := fun z => c1 (decide_eq_true z)
          refine ⟨_, rfl, by show 2 ≤ sizeLine; decide, fun p hp => ?_⟩
          have eg : goBy t (cs ++ [x]) = .inl x := by
            rw [goBy_snoc, eu]
            exact if_pos (by omega)
          refine ⟨_, _, p, xs ++ [.ref q], cs ++ [x], rfl, K5.new hp, upd_some h5 hp, t5.new hp, ok5, lc5, ?_, ?_⟩
          · rw [eg]
            exact .tup upd_same (.cons (.str _) (.cons ((Tr.tup hq5 (.cons (.int _) (.cons (.int _) (.cons (.str _) .nil)))).new hp) .nil))
          · rw [eg]
            exact True.intro
      · refine ⟨_, rfl, _, rfl, pd, _, _, _, rfl, rfl, SqT.of hu3, atI_nat (j := 0) rfl, rfl, _, rfl, ?_⟩
        rw [show decide (V.str "none" = V.str "told") = false by decide +kernel]
        refine iteF ?_
        refine ⟨g, 9, 0, 0, rfl, K3.bag, by decide, fun v x H4 cx tx D4 => ?_⟩
        obtain ⟨q, rfl, hq⟩ := ch_at tx
        have okx := cx.ok (by decide)
        have K4 := K3.drawn D4
        have h4 := D4.keep npr h3
        refine ⟨_, rfl, .inl ⟨rfl, _, SqL.of h4⟩, _, rfl, pr, xs, _, rfl, rfl, h4, by rw [t3.len, List.length_map, lc]; exact Nat.lt_of_le_of_lt i4 (by decide), ?_⟩
        have nt' : ∀ ys, H4 pr ≠ some (.tup ys) := fun ys h => by
          rw [h4] at h
          cases h
        have tk5 : Tk H4 (upd H4 pr (.lst (xs ++ [.ref q]))) := (Tk.refl _).put nt'
        have hu5 := tk5 _ _ (D4.tk _ _ hu3)
        refine ⟨_, rfl, pd, _, _, _, rfl, rfl, SqT.of hu5, atI_nat (j := 0) rfl, rfl, _, rfl, ?_⟩
        rw [show decide (V.str "none" = V.str "told") = false by decide +kernel]
        refine iteF ?_
        have eg : goBy t (cs ++ [x]) = .inl c0 := by
          rw [goBy_snoc, eu]
          rfl
        refine ⟨_, _, pd, xs ++ [.ref q], cs ++ [x], rfl, K4.put B0 T0 hpr ⟨_, h4⟩, upd_same, ?_, ?_, by rw [List.length_append, lc] <;> rfl, ?_, ?_⟩
        · rw [List.map_append]
          exact TrAll.app ((t3.keep D4.tk).keep tk5) (.one (tx.keep tk5))
        · intro c hc
          rcases List.mem_append.mp hc with h | h
          · exact ok c h
          · rw [List.mem_singleton.mp h]
            exact okx
        · rw [eg, ← eu]
          exact (td.keep D4.tk).keep tk5
        · rw [eg]
          exact True.intro
    · rintro σ H3 ⟨v4, v5, pd, xs, cs, rfl, K3, h3, t3, ok, lc, td, ll⟩
      have lc4 : cs.length ≤ 4 := by omega
      have so := lst_okd (fun c hc => (ok c hc).1) (show cs.length ≤ 100 by omega)
      have okd : OkD (byD (goBy t cs)) := byD_ok (n := n.toNat) (by omega) (fun c hc => (ok c hc).1) ll
      -- what is given
      refine ⟨_, rfl, _, rfl, _, rfl, pr, xs, rfl, .inl ⟨SqL.of h3, fun pt hpt => ?_⟩⟩
      have K3 := K3.new (o := .tup xs) hpt
      have h3 := upd_some (u := .tup xs) h3 hpt
      have t3 := t3.new (o := .tup xs) hpt
      have td := td.new (o := .tup xs) hpt
      have ht3 : upd H3 pt (.tup xs) pt = some (.tup xs) := upd_same
      generalize upd H3 pt (HO.tup xs) = H4 at K3 h3 t3 td ht3 ⊢
      refine ⟨by show 2 ≤ sizeLine; decide, fun pl hpl => pick_of K3.bag hpl (by show 0 < 2; decide) (by show 2 < 1000; decide) fun v H5 hv D5 => ?_⟩
      have K5 := K3.drawn D5
      have h5 := D5.keep npr h3
      have ht5 := D5.tk _ _ ht3
      have t5 := t3.keep D5.tk
      have td5 := td.keep D5.tk
      refine ⟨_, rfl, .ref pr, .list (cs.map chD), rfl, .inl ⟨_, rfl⟩, .lst (SqL.of h5) t5.dp, so.1, by show 2 ≤ sizeLine; decide, fun pg hpg => ?_⟩
      refine ⟨pg, _, rfl, SqT.of upd_same, rfl, _, _, rfl, _, _, rfl, rfl, ?_⟩
      have K6 := K5.new (o := .tup [v, .str (PyData.list (cs.map chD)).shown]) hpg
      have h6 := upd_some (u := .tup [v, .str (PyData.list (cs.map chD)).shown]) h5 hpg
      have ht6 := upd_some (u := .tup [v, .str (PyData.list (cs.map chD)).shown]) ht5 hpg
      have t6 := t5.new (o := .tup [v, .str (PyData.list (cs.map chD)).shown]) hpg
      have td6 := td5.new (o := .tup [v, .str (PyData.list (cs.map chD)).shown]) hpg
      generalize upd H5 pg (HO.tup [v, V.str (PyData.list (cs.map chD)).shown]) = H6 at K6 h6 ht6 t6 td6 ⊢
      obtain ⟨a, rfl, ha⟩ : ∃ a, v = .ref a ∧ (H6 a = some (.lst xs) ∨ H6 a = some (.tup xs)) := by
        simp only [List.mem_cons, List.not_mem_nil, or_false] at hv
        rcases hv with rfl | rfl
        · exact ⟨pr, rfl, .inl h6⟩
        · exact ⟨pt, rfl, .inr ht6⟩
      refine ⟨K6.tb, fun H7 e7 T7 => ?_⟩
      have K7 := K6.ext e7 T7
      have h7 := ExtN.lst e7 h6
      have t7 := t6.keep (ExtN.tk' e7)
      have td7 := td6.keep (ExtN.tk' e7)
      have row : Row K H7 t a xs cs := ⟨ha.elim (fun z => .inl (SqL.of (ExtN.lst e7 z))) (fun z => .inr (SqT.of (ExtN.tk' e7 _ _ z))), t7, lt, ok, lc4⟩
      refine ⟨_, rfl, _, rfl, t, a, xs, cs, rfl, row, fun c v d H8 e tv s8 h8 => ⟨rfl, d, v, rfl, h8, fun p hp => ?_⟩, fun u e => ⟨by show 2 ≤ sizeLine; decide, fun p hp => ?_⟩⟩
      · have s9 := s8.trans (same_new (o := .tup [.str "none", v]) hp)
        refine ⟨_, rfl, .ref p, .ref pd, byD (goBy t cs), rfl, .inl ⟨_, rfl⟩, .inl ⟨_, rfl⟩, ?_, (td7.keep (Tk.of s9)).dp, okd, fun H9 s10 => ⟨_, rfl, iteT ?_⟩⟩
        · rw [e]
          exact (Tr.tup upd_same (.cons (.str _) (.cons (tv.new hp) .nil))).dp
        have s11 := s9.trans s10
        refine ⟨_, rfl, .ref pr, .list (cs.map chD), rfl, .inl ⟨_, rfl⟩, .lst (SqL.of (s11 _ _ h7)) (t7.keep (Tk.of s11)).dp, so.1, _, rfl, rfl, ?_⟩
        rw [decide_eq_true rfl]
        exact k _ (K7.same s11)
      · have s9 := same_new (o := .tup [.str "told", .str u]) hp
        refine ⟨_, rfl, .ref p, .ref pd, byD (goBy t cs), rfl, .inl ⟨_, rfl⟩, .inl ⟨_, rfl⟩, ?_, (td7.keep (Tk.of s9)).dp, okd, fun H9 s10 => ⟨_, rfl, iteT ?_⟩⟩
        · rw [e]
          exact (Tr.tup upd_same (.cons (.str _) (.cons (.str _) .nil))).dp
        have s11 := s9.trans s10
        refine ⟨_, rfl, .ref pr, .list (cs.map chD), rfl, .inl ⟨_, rfl⟩, .lst (SqL.of (s11 _ _ h7)) (t7.keep (Tk.of s11)).dp, so.1, _, rfl, rfl, ?_⟩
        rw [decide_eq_true rfl]
        exact k _ (K7.same s11)

open LamX (CodeO TabS Tabs ExtN TabB GivesTo LamS lamEnv lamCx tLam)
def spLaw6 (K : PySem.W.Frag) (Tl : List (Addr × Str)) : Sp := fun vs H Q _ => ∃ (a : Addr) (ns : List Int), vs = [.ref a] ∧ SqL K H a (ns.map V.int) ∧ ns.length ≤ 63 ∧ Tabs Tl H ∧ ∀ H', Q (.bl true) H'
def texts6 : List Str := ["let a = 1;\n\nset b=2; # x\n", "", "aaaa", "x", "f( a,\n b);", "'''a\nb''';"]
theorem texts6_ok : ∀ x ∈ texts6, x.length ≤ 30 ∧ Nice x := by
  have h : texts6.all (fun x => decide (x.length ≤ 30) && (TL.tl x).all (· < 0x110000)) = true := by decide +kernel
  intro x hx
  have := List.all_eq_true.mp h x hx
  rw [Bool.and_eq_true] at this
  exact ⟨of_decide_eq_true this.1, nice_of this.2⟩
def signs6 : List Str := ["a", "ab", "a\n"]
theorem signs6_ok : ∀ x ∈ signs6, 0 < x.length ∧ x.length < 1000 ∧ Nice x := by
  have h : signs6.all (fun x => decide (0 < x.length) && decide (x.length < 1000) && (TL.tl x).all (· < 0x110000)) = true := by decide +kernel
  intro x hx
  have := List.all_eq_true.mp h x hx
  rw [Bool.and_eq_true, Bool.and_eq_true] at this
  exact ⟨of_decide_eq_true this.1.1, of_decide_eq_true this.1.2, nice_of this.2⟩
theorem fn_law6 {C fI c1 P1 f : Addr} {Tl : List (Addr × Str)} {oc : Value} {od an : Option Addr} {sl : Array (Option Value)} {kV dc pm ct : Value} (T : Txt K mg w)
    (lk : K.lookup f = some ⟨oc, od, .func (PySem.W.fnOf "law" "law" (defArgs s_p_law) (defBody s_p_law) (defScope s_p_law) .none kV dc pm an (.ref c1) ct), sl⟩) (hcd : PySem.W.codeIn K (.ref c1) "law" = true)
    (TX : XcT K mg "NoChange" "change" C fI) (TB : TabB base mg c1 P1)
    (mT : (P1, ("law" : Str) ++ ".<locals>." ++ "<lambda>") ∈ Tl) (uT : ∀ p ∈ Tl, p.1 = P1 → p.2 = ("law" : Str) ++ ".<locals>." ++ "<lambda>")
    (c_l_bag : Cal P w K mg base 1 "_law_bag" (spBag K) []) (c_l_take : Cal P w K mg base 1 "_law_take" spTake []) (c_l_one : Cal P w K mg base 2 "_law_one" (spOne K) []) (c_l_drawn_change : Cal P w K mg base 3 "_law_drawn_change" spDrC [])
    (c_l_changed : Cal P w K mg base 1 "_law_changed" spChL []) (c_p_changed : CalX P w K mg base 3 "changed" ["text", "change"] (spChX C)) (c_l_alike : CalG P w K mg base 1 "_law_alike" (spAlike2 K))
    (c_l_rows_right : CalG P w K mg base 7 "_law_rows_right" (spRows Tl)) (c_p_back_of : Cal P w K mg base 1 "back_of" spBack []) (c_l_all_between : Cal P w K mg base 1 "_law_all_between" spAllB [])
    (c_p_change_between : Cal P w K mg base 2 "change_between" spBetw []) (c_l_change_between : Cal P w K mg base 1 "_law_change_between" spBetw []) :
    FnG P w K mg base 8 f (PySem.W.fnOf "law" "law" (defArgs s_p_law) (defBody s_p_law) (defScope s_p_law) .none kV dc pm an (.ref c1) ct) ["_law_script"] (spLaw6 K Tl) := by
  refine fnG_ofK lk hcd sc_p_law (fun vs H Q E h => ?_) (fun A outer s H vs Q E hr gd h => ?_)
  · obtain ⟨a, ns, rfl, _⟩ := h
    rfl
  · obtain ⟨a, ns, rfl, hq, hl, T0, k⟩ := h
    have hu := hr.units
    have HD := T.d_l_heard
    refine ⟨_,
      (pss_cons (ps_set (i := 1) sc_p_law.nd rfl (Or.inr rfl) (pe_c c_l_bag hr (by first | decide | omega) rfl (pa_cons (pv 0) pa_nil)))
        (Evl.pss_cut (ps_for PassesOwn.never rfl (pi_range1 (by rfl) T.n_range (pa_cons pe_int pa_nil)) (pg_name (i := 2) sc_p_law.nd rfl (Or.inl rfl))
        (pss_cons (ps_set (i := 13) sc_p_law.nd rfl (Or.inr rfl) (pe_c c_l_one hr (by first | decide | omega) rfl (pa_cons (pv 1) (pa_cons (pe_lst (pa_cons pe_str (pa_cons pe_str (pa_cons pe_str (pa_cons pe_str (pa_cons pe_str (pa_cons pe_str pa_nil))))))) pa_nil))))
        (pss_cons (ps_set (i := 12) sc_p_law.nd rfl (Or.inr rfl) (pe_c c_l_drawn_change hr (by first | decide | omega) rfl (pa_cons (pv 1) (pa_cons (pe_callB call_len (by rfl) T.n_len PySem.boot_len (pa_cons (pv 13) pa_nil)) pa_nil))))
        (pss_cons (ps_set (i := 3) sc_p_law.nd rfl (Or.inl rfl) (pe_ifExp (pt_cmpR op_le (pe_ix ix_tup (pv 12) pe_int (fun _ _ => rfl)) (pe_callB call_len (by rfl) T.n_len PySem.boot_len (pa_cons (pv 13) pa_nil)) (nomark _)) (pe_tup (pa_cons pe_str (pa_cons (pe_c c_l_changed hr (by first | decide | omega) rfl (pa_cons (pv 13) (pa_cons (pv 12) pa_nil))) pa_nil))) (pe_tup (pa_cons pe_str (pa_cons (pv 12) pa_nil)))))
        (pss_cons (ps_if (PW.pt (pw_or (pt_not (pt_val (pe_cG c_l_alike (hr.mono (by decide)) gd rfl (pa_cons (by exact pe_heard (q := ("law" : Str) ++ ".<locals>.") rfl HD TX rfl TB rfl mT uT (k := 3) (hr.mono (by decide)) (LamX.lamS_by (by show LamX.lamSB (defScope s_p_law) _ = true; decide +kernel)) rfl (fun _ _ _ _ _ => rfl) (fun A outer s H E f c' hr2 => pe_cX c_p_changed hr2 (by decide) rfl (takes_of rfl rfl rfl rfl) (pa_cons (pe_var (i := 13) rfl (.inr (.inr rfl)) (by decide) (by decide)) (pa_cons (pe_var (i := 12) rfl (.inr (.inr rfl)) (by decide) (by decide)) pa_nil)))) (pa_cons (pv 3) pa_nil))))) (pw_or1 (pt_not (pt_val (pe_cG c_l_rows_right (hr.mono (by decide)) gd rfl (pa_cons (pv 1) (pa_cons (pv 13) pa_nil))))))))
        (pss_one (ps_ret pe_bl))
        pss_nil)
        (pss_one (ps_if (pt_cmpR op_eq (pe_ix ix_tup (pv 3) pe_int (fun _ _ => rfl)) pe_str (nomark _))
        (pss_cons (ps_set (i := 4) sc_p_law.nd rfl (Or.inl rfl) (pe_c c_p_back_of hr (by first | decide | omega) rfl (pa_cons (pv 13) (pa_cons (pv 12) pa_nil))))
        (pss_cons (ps_if (pt_not (pt_val (pe_cG c_l_alike (hr.mono (by decide)) gd rfl (pa_cons (pv 4) (pa_cons (pe_tup (pa_cons (pe_ix ix_tup (pv 12) pe_int (fun _ _ => rfl)) (pa_cons (pe_op op_add (pe_ix ix_tup (pv 12) pe_int (fun _ _ => rfl)) (pe_callB call_len (by rfl) T.n_len PySem.boot_len (pa_cons (pe_ix ix_tup (pv 12) pe_int (fun _ _ => rfl)) pa_nil))) (pa_cons (pe_slice sl_str (pv 13) (po_some (pe_ix ix_tup (pv 12) pe_int (fun _ _ => rfl))) (po_some (pe_ix ix_tup (pv 12) pe_int (fun _ _ => rfl)))) pa_nil)))) pa_nil)))))
        (pss_one (ps_ret pe_bl))
        pss_nil)
        (pss_one (ps_if (pt_not (pt_val (pe_cG c_l_alike (hr.mono (by decide)) gd rfl (pa_cons (pe_cX c_p_changed hr (by decide) rfl takes0 (pa_cons (pe_ix ix_tup (pv 3) pe_int (fun _ _ => rfl)) (pa_cons (pv 4) pa_nil))) (pa_cons (pv 13) pa_nil)))))
        (pss_one (ps_ret pe_bl))
        pss_nil))))
        pss_nil)))))))
        (pss_cons (ps_for PassesOwn.never rfl (pi_range1 (by rfl) T.n_range (pa_cons pe_int pa_nil)) (pg_name (i := 2) sc_p_law.nd rfl (Or.inl rfl))
        (pss_cons (ps_set (i := 5) sc_p_law.nd rfl (Or.inr rfl) (pe_c c_l_one hr (by first | decide | omega) rfl (pa_cons (pv 1) (pa_cons (pe_lst (pa_cons pe_str (pa_cons pe_str (pa_cons pe_str pa_nil)))) pa_nil))))
        (pss_cons (ps_set (i := 6) sc_p_law.nd rfl (Or.inl rfl) (pe_join pe_str (pe_lc (own := [("_law_k", 14)]) (g := gName 14) (tt := tYes) rfl sc_p_law.nd (pi_range1 (by rfl) T.n_range (pa_cons (pe_c c_l_take hr (by first | decide | omega) rfl (pa_cons (pv 1) (pa_cons pe_int pa_nil))) pa_nil)) (blkOk_by (N := ["_law_script", "_law_bag_here", "_law_turn", "_law_due", "_law_back", "_law_signs", "_law_one_here", "_law_other", "_law_some", "_law_told", "_law_begin", "_law_end", "_law_change", "_law_text", "_law_k", "_law_place"]) (sc := defScope s_p_law) (by decide +kernel)) (fun _ _ _ _ _ => pg_name (i := 14) sc_p_law.nd rfl (Or.inl rfl)) (fun _ _ _ _ _ => pts_nil) (fun _ _ _ _ _ => (pe_c c_l_one hr (by first | decide | omega) rfl (pa_cons (pv 1) (pa_cons (pv 5) pa_nil)))))))
        (pss_cons (ps_set (i := 7) sc_p_law.nd rfl (Or.inl rfl) (pe_join pe_str (pe_lc (own := [("_law_k", 14)]) (g := gName 14) (tt := tYes) rfl sc_p_law.nd (pi_range1 (by rfl) T.n_range (pa_cons (pe_c c_l_take hr (by first | decide | omega) rfl (pa_cons (pv 1) (pa_cons pe_int pa_nil))) pa_nil)) (blkOk_by (N := ["_law_script", "_law_bag_here", "_law_turn", "_law_due", "_law_back", "_law_signs", "_law_one_here", "_law_other", "_law_some", "_law_told", "_law_begin", "_law_end", "_law_change", "_law_text", "_law_k", "_law_place"]) (sc := defScope s_p_law) (by decide +kernel)) (fun _ _ _ _ _ => pg_name (i := 14) sc_p_law.nd rfl (Or.inl rfl)) (fun _ _ _ _ _ => pts_nil) (fun _ _ _ _ _ => (pe_c c_l_one hr (by first | decide | omega) rfl (pa_cons (pv 1) (pa_cons (pv 5) pa_nil)))))))
        (Evl.pss_cut (ps_if (pt_cmpR op_eq (pe_c c_l_take hr (by first | decide | omega) rfl (pa_cons (pv 1) (pa_cons pe_int pa_nil))) pe_int (nomark _))
        (pss_one (ps_set (i := 7) sc_p_law.nd rfl (Or.inl rfl) (pv 6)))
        pss_nil)
        (pss_cons (ps_par (i := 8) (j := 9) (by rfl) sc_p_law.nd rfl rfl (by decide) rfl rfl (pa_cons (pe_c c_l_all_between hr (by first | decide | omega) rfl (pa_cons (pv 6) (pa_cons (pv 7) pa_nil))) (pa_cons (pe_c c_p_change_between hr (by first | decide | omega) rfl (pa_cons (pv 6) (pa_cons (pv 7) pa_nil))) pa_nil)) (by rfl))
        (pss_cons (ps_set (i := 10) sc_p_law.nd rfl (Or.inr rfl) (pe_callB (cr_max rfl) (by rfl) T.n_max (by decide +kernel) (pa_cons (pe_lc (own := [("_law_place", 15)]) (g := gName 15) (tt := tYes) rfl sc_p_law.nd (pi_list (pv 8)) (blkOk_by (N := ["_law_script", "_law_bag_here", "_law_turn", "_law_due", "_law_back", "_law_signs", "_law_one_here", "_law_other", "_law_some", "_law_told", "_law_begin", "_law_end", "_law_change", "_law_text", "_law_k", "_law_place"]) (sc := defScope s_p_law) (by decide +kernel)) (fun _ _ _ _ _ => pg_name (i := 15) sc_p_law.nd rfl (Or.inl rfl)) (fun _ _ _ _ _ => pts_nil) (fun _ _ _ _ _ => (pe_ix (show IxR _ (rIxT K) from ix_tup) (pv 15) pe_int (fun _ _ => rfl)))) pa_nil)))
        (pss_cons (ps_set (i := 11) sc_p_law.nd rfl (Or.inl rfl) (pe_callB (cr_min rfl) (by rfl) T.n_min (by decide +kernel) (pa_cons (pe_lc (own := [("_law_place", 15)]) (g := gName 15) rfl sc_p_law.nd (pi_list (pv 8)) (blkOk_by (N := ["_law_script", "_law_bag_here", "_law_turn", "_law_due", "_law_back", "_law_signs", "_law_one_here", "_law_other", "_law_some", "_law_told", "_law_begin", "_law_end", "_law_change", "_law_text", "_law_k", "_law_place"]) (sc := defScope s_p_law) (by decide +kernel)) (fun _ _ _ _ _ => pg_name (i := 15) sc_p_law.nd rfl (Or.inl rfl)) (fun _ _ _ _ _ => (pts_one (pt_cmpR op_eq (pe_ix (show IxR _ (rIxT K) from ix_tup) (pv 15) pe_int (fun _ _ => rfl)) (pv 10) (nomark _)))) (fun _ _ _ _ _ => (pe_ix (show IxR _ (rIxT K) from ix_tup) (pv 15) pe_int (fun _ _ => rfl)))) pa_nil)))
        (pss_cons (ps_if (PW.pt (pw_or (pt_not (pt_val (pe_cG c_l_alike (hr.mono (by decide)) gd rfl (pa_cons (pv 9) (pa_cons (pe_c c_l_change_between hr (by first | decide | omega) rfl (pa_cons (pv 6) (pa_cons (pv 7) pa_nil))) pa_nil))))) (pw_or1 (pt_cmpR (op_neD hr.units) (pe_slice sl_tup (pv 9) po_none (po_some pe_int)) (pe_tup (pa_cons (pv 10) (pa_cons (pv 11) pa_nil))) (nomark _)))))
        (pss_one (ps_ret pe_bl))
        pss_nil)
        (pss_one (ps_if (pt_not (pt_val (pe_cG c_l_alike (hr.mono (by decide)) gd rfl (pa_cons (pe_cX c_p_changed hr (by decide) rfl takes0 (pa_cons (pv 6) (pa_cons (pv 9) pa_nil))) (pa_cons (pv 7) pa_nil)))))
        (pss_one (ps_ret pe_bl))
        pss_nil)))))))))))
        (pss_one (ps_ret pe_bl)))))
      , ?_⟩
    refine ⟨_, rfl, a, ns, rfl, hq, hl, fun g H0 s0 B0 => ?_⟩
    have T1 := T0.ext s0
    refine ⟨fun σ' H' => ∃ (v2 v3 v4 v5 v6 v7 v8 v9 v10 v11 v12 v13 v14 v15 : Option V), σ' = [some (.ref a), some (.ref g.b), v2, v3, v4, v5, v6, v7, v8, v9, v10, v11, v12, v13, v14, v15] ∧ Bag H' g 0 0 ∧ Tabs Tl H', ?_, ?_⟩
    · refine ⟨4, rfl, by decide, by decide, ?_⟩
      refine for_range (lo := 0) (n := 4) (fun i σ H' => ∃ (v2 v3 v4 v5 v6 v7 v8 v9 v10 v11 v12 v13 v14 v15 : Option V), σ = [some (.ref a), some (.ref g.b), v2, v3, v4, v5, v6, v7, v8, v9, v10, v11, v12, v13, v14, v15] ∧ Bag H' g 0 0 ∧ Tabs Tl H') ⟨none, none, none, none, none, none, none, none, none, none, none, none, none, none, rfl, B0, T1⟩ ?_ ?_
      · rintro i σ H1 hi ⟨v2, v3, v4, v5, v6, v7, v8, v9, v10, v11, v12, v13, v14, v15, rfl, B1, T1⟩
        refine ⟨_, rfl, by decide, fun p hp => pick_of (l := texts6.map V.str) B1 hp (by decide) (by decide) fun v H2 hv D2 => ?_⟩
        obtain ⟨t, ht, rfl⟩ := strs_in hv
        obtain ⟨lt, nt⟩ := texts6_ok t ht
        have lz : t.length ≤ sizeLine := Nat.le_trans lt (by decide)
        have K2 := (Kpt.refl B1 T1).drawn D2
        refine ⟨_, rfl, _, rfl, _, t.length, rfl, ⟨lz, rfl⟩, g, t.length, 0, 0, rfl, K2.bag, by omega, fun v x H3 cx tx D3 => ?_⟩
        obtain ⟨q, rfl, hq⟩ := ch_at tx
        have okx := cx.ok (show t.length ≤ 900 by omega)
        have K3 := K2.drawn D3
        have sz : x.s.length ≤ sizeLine := Nat.le_trans okx.2 (by decide)
        have ft : Fit t x := ⟨by omega, okx.1⟩
        have lng : Long 0 t := ⟨by show t.length + 10 ≤ 40 * 1; omega, nt⟩
        have lc := chg_long lng okx.2 okx.1.n
        have lcl : (chg t x).length ≤ 100 := by
          have := lc.l
          have e : 40 * 2 ^ (0 + 1) = 80 := rfl
          omega
        refine ⟨_, rfl, q, _, _, _, rfl, rfl, SqT.of hq, atI_nat (j := 1) rfl, _, rfl, _, t.length, rfl, ⟨lz, rfl⟩, _, _, rfl, rfl, _, rfl, ?_⟩
        refine ite2 (fun c1 => ?_) (fun c1 => ?_)
        · have c1 : x.e ≤ (t.length : Int) := of_decide_eq_true c1
          refine ⟨_, rfl, _, rfl, t, q, x, rfl, hq, ft, by show 2 ≤ sizeLine; decide, fun pd hpd => ?_⟩
          have K4 := K3.new (o := .tup [.str "told", .str (chg t x)]) hpd
          have hq4 := upd_some (u := .tup [.str "told", .str (chg t x)]) hq hpd
          have hd4 : upd H3 pd (.tup [.str "told", .str (chg t x)]) pd = some (.tup [.str "told", .str (chg t x)]) := upd_same
          generalize upd H3 pd (HO.tup [V.str "told", V.str (chg t x)]) = H4 at K4 hq4 hd4 ⊢
          refine ⟨K4.tb, fun H5 e5 T5 => ?_⟩
          have K5 := K4.ext e5 T5
          have hq5 := ExtN.tk' e5 _ _ hq4
          have hd5 := ExtN.tk' e5 _ _ hd4
          refine ⟨_, rfl, _, rfl, t, q, x, rfl, hq5, ft, fun h => absurd h (by omega), fun _ => ⟨by show 2 ≤ sizeLine; decide, fun p5 hp5 => ?_⟩⟩
          have okd : OkD (.tuple [.str "told", .str (chg t x)]) := byD_ok (n := 1) (t := chg t x) (cs := []) (by decide) (by simp) lc
          have dd : ∀ {G : Hp} {p : Addr}, G p = some (.tup [.str "told", .str (chg t x)]) → Dp K G (.ref p) (.tuple [.str "told", .str (chg t x)]) := fun h => (Tr.tup h (.cons (.str _) (.cons (.str _) .nil))).dp
          refine ⟨_, rfl, .ref p5, .ref pd, _, rfl, .inl ⟨_, rfl⟩, .inl ⟨_, rfl⟩, dd upd_same, dd (upd_some hd5 hp5), okd, fun H6 s6 => ⟨_, rfl, ?_⟩⟩
          have s56 := (same_new (o := .tup [.str "told", .str (chg t x)]) hp5).trans s6
          have K6 := K5.same s56
          refine ⟨_, rfl, _, rfl, g, t, rfl, K6.bag, lng, K6.tb, fun H7 K7' => ⟨_, rfl, ?_⟩⟩
          refine iteF ?_
          have K7 := K6.trans K7'
          have tk7 := K7'.tk K6.bag
          have hq7 := tk7 _ _ (s56 _ _ hq5)
          have hd7 := tk7 _ _ (s56 _ _ hd5)
          refine ⟨_, rfl, pd, _, _, _, rfl, rfl, SqT.of hd7, atI_nat (j := 0) rfl, rfl, _, rfl, ?_⟩
          rw [decide_eq_true rfl]
          refine iteT ?_
          refine ⟨_, rfl, _, rfl, t, q, x, rfl, hq7, by omega, by omega, fun pb hpb => ?_⟩
          have K8 := K7.new (o := .tup [.int x.b, .int (x.b + x.s.length), .str (cutS t (some x.b) (some x.e))]) hpb
          have hq8 := upd_some (u := .tup [.int x.b, .int (x.b + x.s.length), .str (cutS t (some x.b) (some x.e))]) hq7 hpb
          have hd8 := upd_some (u := .tup [.int x.b, .int (x.b + x.s.length), .str (cutS t (some x.b) (some x.e))]) hd7 hpb
          have hb8 : upd H7 pb (.tup [.int x.b, .int (x.b + x.s.length), .str (cutS t (some x.b) (some x.e))]) pb = some (.tup [.int x.b, .int (x.b + x.s.length), .str (cutS t (some x.b) (some x.e))]) := upd_same
          generalize upd H7 pb (HO.tup [V.int x.b, V.int (x.b + x.s.length), V.str (cutS t (some x.b) (some x.e))]) = H8 at K8 hq8 hd8 hb8 ⊢
          obtain ⟨cb, cnot⟩ := chg_back cx c1
          have cl := cutS_length t (some x.b) (some x.e)
          have okb : ChOk (bkC t x) := ⟨okx.1.b, by show (x.b + x.s.length).natAbs ≤ 1000; have := okx.1.b; have := okx.2; have := cx.b; omega, by show (cutS t (some x.b) (some x.e)).length ≤ 100; omega, nt.cut _ _⟩
          refine ⟨_, rfl, _, rfl, q, _, _, _, rfl, rfl, SqT.of hq8, atI_nat (j := 0) rfl, ?_⟩
          refine ⟨_, rfl, q, _, _, _, rfl, rfl, SqT.of hq8, atI_nat (j := 0) rfl, _, rfl, q, _, _, _, rfl, rfl, SqT.of hq8, atI_nat (j := 2) rfl, _, x.s.length, rfl, ⟨sz, rfl⟩, _, _, rfl, rfl, ?_⟩
          refine ⟨_, rfl, _, rfl, q, _, _, _, rfl, rfl, SqT.of hq8, atI_nat (j := 0) rfl, _, rfl, _, rfl, q, _, _, _, rfl, rfl, SqT.of hq8, atI_nat (j := 1) rfl, _, rfl, _, rfl, lz, by show 3 ≤ sizeLine; decide, fun p9 hp9 => ?_⟩
          have db : ∀ {G : Hp} {p : Addr}, G p = some (.tup [.int x.b, .int (x.b + x.s.length), .str (cutS t (some x.b) (some x.e))]) → Dp K G (.ref p) (chD (bkC t x)) := fun h => (Tr.tup h (.cons (.int _) (.cons (.int _) (.cons (.str _) .nil)))).dp
          have okbd : OkD (chD (bkC t x)) := by
            obtain ⟨o1, o2, o3⟩ := chD_ok okb
            exact ⟨o1, by rw [o2]; decide, Nat.le_trans o3 (by decide)⟩
          refine ⟨.ref pb, .ref p9, chD (bkC t x), rfl, .inl ⟨_, rfl⟩, .inl ⟨_, rfl⟩, db (upd_some hb8 hp9), db upd_same, okbd, fun H9 s9 => ⟨_, rfl, iteF ?_⟩⟩
          have s89 := (same_new (o := .tup [.int x.b, .int (x.b + x.s.length), .str (cutS t (some x.b) (some x.e))]) hp9).trans s9
          have K9 := K8.same s89
          refine ⟨_, rfl, pd, _, _, _, rfl, rfl, SqT.of (s89 _ _ hd8), atI_nat (j := 1) rfl, _, rfl, chg t x, pb, bkC t x, rfl, s89 _ _ hb8, ⟨by omega, okb⟩, fun h => absurd h cnot, fun _ => ?_⟩
          rw [cb]
          refine ⟨_, rfl, .str t, .str t, .str t, rfl, .inr ⟨_, rfl⟩, .inr ⟨_, rfl⟩, .str _, .str _, ⟨nt.tame, Nat.zero_le _, by show 10 * t.length + 2 ≤ 16000000; omega⟩, fun H10 s10 => ⟨_, rfl, iteF ?_⟩⟩
          have K10 := K9.same s10
          exact ⟨_, _, _, _, _, _, _, _, _, _, _, _, _, _, rfl, K10.bag, K10.tb⟩
        · have c1 : ¬ x.e ≤ (t.length : Int) := fun z => c1 (decide_eq_true z)
          refine ⟨_, rfl, by show 2 ≤ sizeLine; decide, fun pd hpd => ?_⟩
          have K4 := K3.new (o := .tup [.str "none", .ref q]) hpd
          have hq4 := upd_some (u := .tup [.str "none", .ref q]) hq hpd
          have hd4 : upd H3 pd (.tup [.str "none", .ref q]) pd = some (.tup [.str "none", .ref q]) := upd_same
          generalize upd H3 pd (HO.tup [V.str "none", V.ref q]) = H4 at K4 hq4 hd4 ⊢
          refine ⟨K4.tb, fun H5 e5 T5 => ?_⟩
          have K5 := K4.ext e5 T5
          have hq5 := ExtN.tk' e5 _ _ hq4
          have hd5 := ExtN.tk' e5 _ _ hd4
          refine ⟨_, rfl, _, rfl, t, q, x, rfl, hq5, ft, fun h d H6 s6 h6 => ⟨rfl, d, .ref q, rfl, h6, fun p5 hp5 => ?_⟩, fun h => absurd (show (t.length : Int) < x.e by omega) h⟩
          have okd : OkD (.tuple [.str "none", chD x]) := byD_ok (n := 0) (t := t) (cs := [x]) (by decide) (by simpa using okx.1) (by
            rw [show goBy t [x] = Sum.inl x from if_pos h]
            exact True.intro) |> fun o => by
            rw [show goBy t [x] = Sum.inl x from if_pos h] at o
            exact o
          have dd : ∀ {G : Hp} {p : Addr}, G p = some (.tup [.str "none", .ref q]) → G q = some (.tup [.int x.b, .int x.e, .str x.s]) → Dp K G (.ref p) (.tuple [.str "none", chD x]) := fun h h' => (Tr.tup h (.cons (.str _) (.cons (Tr.tup h' (.cons (.int _) (.cons (.int _) (.cons (.str _) .nil)))) .nil))).dp
          have hq6 := upd_some (u := .tup [.str "none", .ref q]) (s6 _ _ hq5) hp5
          refine ⟨_, rfl, .ref p5, .ref pd, _, rfl, .inl ⟨_, rfl⟩, .inl ⟨_, rfl⟩, dd upd_same hq6, dd (upd_some (s6 _ _ hd5) hp5) hq6, okd, fun H7 s7 => ⟨_, rfl, ?_⟩⟩
          have s57 := s6.trans ((same_new (o := .tup [.str "none", .ref q]) hp5).trans s7)
          have K7 := K5.same s57
          refine ⟨_, rfl, _, rfl, g, t, rfl, K7.bag, lng, K7.tb, fun H8 K8' => ⟨_, rfl, ?_⟩⟩
          refine iteF ?_
          have K8 := K7.trans K8'
          have hd8 := K8'.tk K7.bag _ _ (s57 _ _ hd5)
          refine ⟨_, rfl, pd, _, _, _, rfl, rfl, SqT.of hd8, atI_nat (j := 0) rfl, rfl, _, rfl, ?_⟩
          rw [show decide (V.str "none" = V.str "told") = false by decide +kernel]
          refine iteF ?_
          exact ⟨_, _, _, _, _, _, _, _, _, _, _, _, _, _, rfl, K8.bag, K8.tb⟩
      · rintro σ H1 ⟨v2, v3, v4, v5, v6, v7, v8, v9, v10, v11, v12, v13, v14, v15, rfl, B1, T1⟩
        exact ⟨v2, v3, v4, v5, v6, v7, v8, v9, v10, v11, v12, v13, v14, v15, rfl, B1, T1⟩
    · rintro σ' H1 ⟨v2, v3, v4, v5, v6, v7, v8, v9, v10, v11, v12, v13, v14, v15, rfl, B1, T1⟩
      refine ⟨6, rfl, by decide, by decide, ?_⟩
      refine for_range (lo := 0) (n := 6) (fun i σ H' => ∃ (v2 v3 v4 v5 v6 v7 v8 v9 v10 v11 v12 v13 v14 v15 : Option V), σ = [some (.ref a), some (.ref g.b), v2, v3, v4, v5, v6, v7, v8, v9, v10, v11, v12, v13, v14, v15] ∧ Bag H' g 0 0) ⟨v2, v3, v4, v5, v6, v7, v8, v9, v10, v11, v12, v13, v14, v15, rfl, B1⟩ ?_ ?_
      · rintro i σ H1 hi ⟨v2, v3, v4, v5, v6, v7, v8, v9, v10, v11, v12, v13, v14, v15, rfl, B1⟩
        -- two texts
        refine ⟨_, rfl, by decide, fun p hp => pick_of (l := signs6.map V.str) B1 hp (by decide) (by decide) fun v H2 hv D2 => ?_⟩
        obtain ⟨z, hz, rfl⟩ := strs_in hv
        obtain ⟨z0, z1, nz⟩ := signs6_ok z hz
        refine ⟨⟨_, rfl⟩, _, rfl, g, 7, 0, 0, rfl, D2.bag, by decide, by decide, fun n H3 n0 n7 D3 => ⟨_, rfl, by omega, by omega, fun D hD => ?_⟩⟩
        have nD := D3.bag.ne_new hD
        refine lc_range (lo := 0) (n := n.toNat) (fun j H' => ∃ l : List Str, (∀ x ∈ l, x.length ≤ 1 ∧ Nice x) ∧ l.length = j ∧ H' D = some (.lst (l.map V.str)) ∧ Drawn g H3 H' 0 0) ⟨[], by simp, rfl, upd_same, (Drawn.of D3.bag).put D3.bag hD⟩ ?_ ?_
        · rintro j H' hj ⟨l, hl, ll, hd, Dw⟩
          refine ⟨rfl, _, rfl, _, rfl, g, _, 0, 0, rfl, Dw.bag, .inr ⟨z, rfl, z0, z1, fun c H4 hc D4 => ?_⟩⟩
          refine ⟨_, D4.keep nD hd, by rw [List.length_map, ll]; exact Nat.lt_of_lt_of_le (show j < 100 by omega) (by decide), l ++ [⟨#[c]⟩], ?_, ?_, ?_, (Dw.trans D4).put D3.bag hD⟩
          · intro x hx
            rcases List.mem_append.mp hx with h | h
            · exact hl x h
            · rw [List.mem_singleton.mp h]
              refine ⟨Nat.le_refl 1, fun c' hc' => ?_⟩
              have : c' ∈ [c] := hc'
              rw [List.mem_singleton.mp this]
              exact nz c hc
          · rw [List.length_append, ll] <;> rfl
          · rw [upd_same, List.map_append] <;> rfl
        rintro H4 ⟨l, hl, ll, hd, Dw⟩
        have sl := sum_le fun x hx => (hl x hx).1
        refine ⟨_, D, l, rfl, rfl, .inl (SqL.of hd), ?_, ?_⟩
        · show _ + _ * 0 ≤ _
          omega
        have lx : (Txt.join "" l).length ≤ 20 := by
          rw [glue_len]
          omega
        have nx : Nice (Txt.join "" l) := Nice.glue fun x hx => (hl x hx).2
        have B4 := Dw.bag
        clear hd Dw sl ll hl nD hD D3
        generalize Txt.join "" l = x at lx nx ⊢
        refine ⟨⟨_, rfl⟩, _, rfl, g, 7, 0, 0, rfl, B4, by decide, by decide, fun n H3 n0 n7 D3 => ⟨_, rfl, by omega, by omega, fun D hD => ?_⟩⟩
        have nD := D3.bag.ne_new hD
        refine lc_range (lo := 0) (n := n.toNat) (fun j H' => ∃ l : List Str, (∀ x ∈ l, x.length ≤ 1 ∧ Nice x) ∧ l.length = j ∧ H' D = some (.lst (l.map V.str)) ∧ Drawn g H3 H' 0 0) ⟨[], by simp, rfl, upd_same, (Drawn.of D3.bag).put D3.bag hD⟩ ?_ ?_
        · rintro j H' hj ⟨l, hl, ll, hd, Dw⟩
          refine ⟨rfl, _, rfl, _, rfl, g, _, 0, 0, rfl, Dw.bag, .inr ⟨z, rfl, z0, z1, fun c H4 hc D4 => ?_⟩⟩
          refine ⟨_, D4.keep nD hd, by rw [List.length_map, ll]; exact Nat.lt_of_lt_of_le (show j < 100 by omega) (by decide), l ++ [⟨#[c]⟩], ?_, ?_, ?_, (Dw.trans D4).put D3.bag hD⟩
          · intro x hx
            rcases List.mem_append.mp hx with h | h
            · exact hl x h
            · rw [List.mem_singleton.mp h]
              refine ⟨Nat.le_refl 1, fun c' hc' => ?_⟩
              have : c' ∈ [c] := hc'
              rw [List.mem_singleton.mp this]
              exact nz c hc
          · rw [List.length_append, ll] <;> rfl
          · rw [upd_same, List.map_append] <;> rfl
        rintro H5 ⟨l, hl, ll, hd, Dw⟩
        have sl := sum_le fun x hx => (hl x hx).1
        refine ⟨_, D, l, rfl, rfl, .inl (SqL.of hd), ?_, ?_⟩
        · show _ + _ * 0 ≤ _
          omega
        have ly0 : (Txt.join "" l).length ≤ 20 := by
          rw [glue_len]
          omega
        have ny0 : Nice (Txt.join "" l) := Nice.glue fun x hx => (hl x hx).2
        have B5 := Dw.bag
        clear hd Dw sl ll hl nD hD D3
        generalize Txt.join "" l = y0 at ly0 ny0 ⊢
        refine ⟨fun σ' H' => ∃ (y : Str) (v2 v3 v4 v5 v8 v9 v10 v11 v12 v13 v14 v15 : Option V), σ' = [some (.ref a), some (.ref g.b), v2, v3, v4, v5, some (.str x), some (.str y), v8, v9, v10, v11, v12, v13, v14, v15] ∧ Bag H' g 0 0 ∧ y.length ≤ 20 ∧ Nice y, ?_, ?_⟩
        · refine ⟨_, rfl, g, 4, 0, 0, rfl, B5, by decide, by decide, fun r H6 r0 r1 D6 => ⟨rfl, _, rfl, ?_⟩⟩
          refine ite2 (fun h1 => ?_) (fun h1 => ?_)
          · exact ⟨_, rfl, x, _, _, _, _, _, _, _, _, _, _, _, _, rfl, D6.bag, lx, nx⟩
          · exact ⟨y0, _, _, _, _, _, _, _, _, _, _, _, _, rfl, D6.bag, ly0, ny0⟩
        rintro σ' H6 ⟨y, v2, v3, v4, v5, v8, v9, v10, v11, v12, v13, v14, v15, rfl, B6, ly, ny⟩
        have zx : x.length ≤ sizeLine := Nat.le_trans lx (by decide)
        have ex := str_len x
        have bl := begB_le (TL.tl x) (TL.tl y)
        have sB := sameB_le (TL.tl x) (TL.tl y)
        refine ⟨_, rfl, _, rfl, x, y, rfl, lx, ly, fun ap xs ps H7 s7 h7 t7 iff len => ?_⟩
        refine ⟨_, rfl, _, rfl, x, y, rfl, Nat.le_trans lx (by decide), Nat.le_trans ly (by decide), fun v H8 s8 tv => ⟨_, _, rfl, ?_⟩⟩
        obtain ⟨pt, rfl, hpt⟩ := ch_at tv
        have B8 := B6.same (s7.trans s8)
        have h8 := s8 _ _ h7
        have t8 := t7.keep (Tk.of s8)
        have lxs : xs.length = ps.length := by rw [t7.len, List.length_map]
        have top := (iff _ _).mpr (leads_whole (TL.tl x) (TL.tl y))
        have least := (iff _ _).mpr (betw_leads x y)
        have pos : 0 < ps.length := List.length_pos_of_mem top
        -- the begin
        refine ⟨_, rfl, ap, rfl, ⟨_, SqL.of h8⟩, fun D hD => ?_⟩
        have hap : ap ≠ D := fun z => by
          rw [z, hD] at h8
          cases h8
        refine lc_list (K := K) (a := ap) (xs := xs) (fun j H' => H' D = some (.lst ((ps.take j).map fun r => V.int r.1)) ∧ Same H8 H') ⟨upd_same, same_put (Same.refl _) hD⟩ (fun j H' _ ⟨_, s9⟩ => SqL.of (s9 _ _ h8)) ?_ ?_
        · rintro j u H' hj ⟨hd, s9⟩
          obtain ⟨r, q, hr', rfl, hq⟩ := pair_at (t8.keep (Tk.of s9)) hj
          have li := (List.getElem?_eq_some_iff.mp hr').1
          refine ⟨rfl, _, rfl, q, _, _, _, rfl, rfl, SqT.of hq, atI_nat (j := 0) rfl, _, hd, ?_, ?_, same_put s9 hD⟩
          · rw [List.length_map, List.length_take]
            exact Nat.lt_of_le_of_lt (show _ ≤ 1000 by omega) (by decide)
          · rw [upd_same, List.take_add_one, hr', List.map_append]
            rfl
        rintro H9 ⟨hd, s9⟩
        rw [lxs, List.take_length] at hd
        refine ⟨D, ps.map fun r => (r.1 : Int), rfl, SqL.of (by rw [List.map_map]; exact hd), by rw [List.length_map]; exact pos, fun m hm hmax => ?_⟩
        obtain rfl : m = (begB (TL.tl x) (TL.tl y) : Nat) := by
          obtain ⟨r, hr', rfl⟩ := List.mem_map.mp hm
          have c1 := leads_beg ((iff r.1 r.2).mp hr')
          have c2 := hmax _ (List.mem_map.mpr ⟨_, top, rfl⟩)
          omega
        have h9 := s9 _ _ h8
        have t9 := t8.keep (Tk.of s9)
        -- the end
        refine ⟨_, rfl, ap, rfl, ⟨_, SqL.of h9⟩, fun D2 hD2 => ?_⟩
        refine lc_list (K := K) (a := ap) (xs := xs) (fun j H' => H' D2 = some (.lst (((ps.take j).filter fun r => r.1 = begB (TL.tl x) (TL.tl y)).map fun r => V.int r.2)) ∧ Same H9 H') ⟨upd_same, same_put (Same.refl _) hD2⟩ (fun j H' _ ⟨_, s10⟩ => SqL.of (s10 _ _ h9)) ?_ ?_
        · rintro j u H' hj ⟨hd2, s10⟩
          obtain ⟨r, q, hr', rfl, hq⟩ := pair_at (t9.keep (Tk.of s10)) hj
          have li := (List.getElem?_eq_some_iff.mp hr').1
          have fl := List.length_filter_le (fun r : Nat × Nat => decide (r.1 = begB (TL.tl x) (TL.tl y))) (ps.take j)
          rw [List.length_take] at fl
          refine ⟨rfl, _, rfl, q, _, _, _, rfl, rfl, SqT.of hq, atI_nat (j := 0) rfl, _, rfl, rfl, _, rfl, ?_⟩
          refine ite2 (fun c1 => ?_) (fun c1 => ?_)
          · have c1 : r.1 = begB (TL.tl x) (TL.tl y) := by
              have z := of_decide_eq_true c1
              have z2 := V.int.inj z
              omega
            refine ⟨_, rfl, q, _, _, _, rfl, rfl, SqT.of hq, atI_nat (j := 1) rfl, _, hd2, ?_, ?_, same_put s10 hD2⟩
            · rw [List.length_map]
              exact Nat.lt_of_le_of_lt (show _ ≤ 1000 by omega) (by decide)
            · rw [upd_same, List.take_add_one, hr', List.filter_append, List.map_append]
              have e1 : List.filter (fun r : Nat × Nat => decide (r.1 = begB (TL.tl x) (TL.tl y))) (some r).toList = [r] := List.filter_cons_of_pos (by simpa using c1)
              rw [e1]
              rfl
          · have c1 : ¬ r.1 = begB (TL.tl x) (TL.tl y) := fun z => c1 (decide_eq_true (by rw [z]))
            refine ⟨?_, s10⟩
            rw [hd2, List.take_add_one, hr', List.filter_append, List.map_append]
            have e1 : List.filter (fun r : Nat × Nat => decide (r.1 = begB (TL.tl x) (TL.tl y))) (some r).toList = [] := List.filter_cons_of_neg (by simpa using c1)
            rw [e1]
            simp
        rintro H10 ⟨hd2, s10⟩
        rw [lxs, List.take_length] at hd2
        have inB : ((TL.tl x).length - sameB (TL.tl x) (TL.tl y)) ∈ ((ps.filter fun r => r.1 = begB (TL.tl x) (TL.tl y)).map fun r => r.2) :=
          List.mem_map.mpr ⟨_, List.mem_filter.mpr ⟨least, by simp⟩, rfl⟩
        refine ⟨D2, (ps.filter fun r => r.1 = begB (TL.tl x) (TL.tl y)).map fun r => (r.2 : Int), rfl, SqL.of (by rw [List.map_map]; exact hd2), ?_, fun m hm hmin => ?_⟩
        · have := List.length_pos_of_mem inB
          rw [List.length_map] at this ⊢
          exact this
        obtain rfl : m = (x.length : Int) - sameB (TL.tl x) (TL.tl y) := by
          obtain ⟨r, hr', rfl⟩ := List.mem_map.mp hm
          obtain ⟨hr1, hr2⟩ := List.mem_filter.mp hr'
          have hr2 : r.1 = begB (TL.tl x) (TL.tl y) := by simpa using hr2
          have c1 := leads_end (e := r.2) (by rw [← hr2]; exact (iff r.1 r.2).mp hr1)
          have c2 := hmin _ (List.mem_map.mpr ⟨_, List.mem_filter.mpr ⟨least, by simp⟩, rfl⟩)
          show (r.2 : Int) = _
          have c2 : (r.2 : Int) ≤ (((TL.tl x).length - sameB (TL.tl x) (TL.tl y) : Nat) : Int) := c2
          omega
        have s810 := s9.trans s10
        have hpt10 := s810 _ _ hpt
        have okb := betw_ok lx ly ny
        have okbd : OkD (chD (betw x y)) := by
          obtain ⟨o1, o2, o3⟩ := chD_ok okb
          exact ⟨o1, by rw [o2]; decide, Nat.le_trans o3 (by decide)⟩
        have dd : ∀ {G : Hp}, G pt = some (.tup [.int (betw x y).b, .int (betw x y).e, .str (betw x y).s]) → Dp K G (.ref pt) (chD (betw x y)) := fun h => (Tr.tup h (.cons (.int _) (.cons (.int _) (.cons (.str _) .nil)))).dp
        -- told
        refine ⟨_, rfl, _, rfl, _, rfl, x, y, rfl, Nat.le_trans lx (by decide), Nat.le_trans ly (by decide), fun v2 H11 s11 tv2 => ?_⟩
        obtain ⟨p2, rfl, hp2⟩ := ch_at tv2
        refine ⟨.ref pt, .ref p2, chD (betw x y), rfl, .inl ⟨_, rfl⟩, .inl ⟨_, rfl⟩, dd (s11 _ _ hpt10), tv2.dp, okbd, fun H12 s12 => ⟨_, rfl, ?_⟩⟩
        have hpt12 := s12 _ _ (s11 _ _ hpt10)
        refine ⟨_, rfl, _, rfl, pt, _, rfl, SqT.of hpt12, (by show ¬ (HT.sIx 3 0 none = 0 ∧ HT.sIx 3 3 (some 2) = 3); decide), fun p3 hp3 => ?_⟩
        refine ⟨_, rfl, _, rfl, by show 2 ≤ sizeLine; decide, fun p4 hp4 => ?_⟩
        refine ⟨.tuple [.int (betw x y).b, .int (betw x y).e], .tuple [.int (betw x y).b, .int (betw x y).e], (Tr.tup (upd_some upd_same hp4) (.cons (.int _) (.cons (.int _) .nil))).dp, (Tr.tup upd_same (.cons (.int _) (.cons (.int _) .nil))).dp, rfl, rfl, _, rfl, ?_⟩
        rw [SeqAt.eqv_refl _ rfl]
        refine iteF ?_
        have s14 := (same_new (o := .tup [.int (betw x y).b, .int (betw x y).e]) hp3).trans (same_new (o := .tup [.int (betw x y).b, .int (betw x y).e]) hp4)
        obtain ⟨cy, cno⟩ := chg_betw x y
        refine ⟨_, rfl, _, rfl, x, pt, betw x y, rfl, s14 _ _ hpt12, ⟨by omega, okb⟩, fun h => absurd h cno, fun _ => ?_⟩
        rw [cy]
        refine ⟨_, rfl, .str y, .str y, .str y, rfl, .inr ⟨_, rfl⟩, .inr ⟨_, rfl⟩, .str _, .str _, ⟨ny.tame, Nat.zero_le _, by show 10 * y.length + 2 ≤ 16000000; omega⟩, fun H15 s15 => ⟨_, rfl, iteF ?_⟩⟩
        exact ⟨_, _, _, _, _, _, _, _, _, _, _, _, _, _, rfl, B8.same (s810.trans (s11.trans (s12.trans (s14.trans s15))))⟩
      · rintro σ H1 ⟨v2, v3, v4, v5, v6, v7, v8, v9, v10, v11, v12, v13, v14, v15, rfl, B1⟩
        exact k H1

def tl6 : List (Addr × Str) := [(137, ("_law_rows_right" : Str) ++ ".<locals>." ++ "<lambda>"), (151, ("law" : Str) ++ ".<locals>." ++ "<lambda>")]
theorem tabs0 {H : Hp} (h : ∀ T ∈ [(137 : Addr), 151], H T = some (.tbl #[])) : Tabs tl6 H := fun p hp => by
  unfold tl6 at hp
  simp only [List.mem_cons, List.not_mem_nil, or_false] at hp
  rcases hp with rfl | rfl
  · exact LamX.TabS.nil (h 137 (by simp))
  · exact LamX.TabS.nil (h 151 (by simp))
theorem law_all {C f c1 c2 : Addr} {oc : Value} {od an : Option Addr} {sl : Array (Option Value)} {kV dc pm ct : Value} (T : Txt K mg w)
    (lk : K.lookup f = some ⟨oc, od, .func (PySem.W.fnOf "law" "law" (defArgs s_p_law) (defBody s_p_law) (defScope s_p_law) .none kV dc pm an (.ref c1) ct), sl⟩) (hcd : PySem.W.codeIn K (.ref c1) "law" = true)
    (R : XcR P w K mg base "NoChange" "change" C) (D : DefK K mg "_law_rows_right" s_l_rows_right ["_law_bag_here", "_law_text"] c2) (TB2 : TabB base mg c2 137) (TB1 : TabB base mg c1 151) :
    FnG P w K mg base 8 f (PySem.W.fnOf "law" "law" (defArgs s_p_law) (defBody s_p_law) (defScope s_p_law) .none kV dc pm an (.ref c1) ct) ["_law_script"] (spLaw6 K tl6) := by
  obtain ⟨fI, fd, TX, F1, b1⟩ := id R.ex
  have take : Cal P w K mg base 1 "_law_take" spTake [] := c_l_take T
  have one : Cal P w K mg base 2 "_law_one" (spOne K) [] := c_l_one T take
  have drawn : Cal P w K mg base 3 "_law_drawn_change" spDrC [] := c_l_drawn_change T take one
  have lch : Cal P w K mg base 1 "_law_changed" spChL [] := c_l_changed T
  have pch : CalX P w K mg base 3 "changed" ["text", "change"] (spChX C) := c_p_changed T R
  have alike : CalG P w K mg base 1 "_law_alike" (spAlike2 K) := c_l_alike T
  have u2 : ∀ p ∈ tl6, p.1 = 137 → p.2 = ("_law_rows_right" : Str) ++ ".<locals>." ++ "<lambda>" := fun p hp e => by
    unfold tl6 at hp
    simp only [List.mem_cons, List.not_mem_nil, or_false] at hp
    rcases hp with rfl | rfl
    · rfl
    · cases e
  have u1 : ∀ p ∈ tl6, p.1 = 151 → p.2 = ("law" : Str) ++ ".<locals>." ++ "<lambda>" := fun p hp e => by
    unfold tl6 at hp
    simp only [List.mem_cons, List.not_mem_nil, or_false] at hp
    rcases hp with rfl | rfl
    · cases e
    · rfl
  have rows : CalG P w K mg base 7 "_law_rows_right" (spRows tl6) := c_l_rows_right T D TX TB2 (List.mem_cons_self ..) u2 take one drawn lch (c_p_changed_by T pch) alike
  exact fn_law6 T lk hcd TX TB1 (List.mem_cons_of_mem _ (List.mem_cons_self ..)) u1 (c_l_bag T) take one drawn lch pch alike rows (c_p_back_of T) (c_l_all_between T) (c_p_change_between T (c_p_same_begin T)) (c_l_change_between T)
end

theorem all_mk {l : PySem.W.OpenLaw} {w : World} {K : PySem.W.Frag} {h : Heap} {mg : Str → Option Value} {fa : Addr} (X : K.In h) (G : h.Ns mainGlobals mg) (hfa : mg "law" = some (.ref fa))
    {f0 : Addr} {od0 an0 : Option Addr} {sl0 : Array (Option Value)} {oc0 kV0 dc0 pm0 cd0 ct0 : Value}
    {f1 : Addr} {od1 an1 : Option Addr} {sl1 : Array (Option Value)} {oc1 kV1 dc1 pm1 cd1 ct1 : Value}
    {f2 : Addr} {od2 an2 : Option Addr} {sl2 : Array (Option Value)} {oc2 kV2 dc2 pm2 cd2 ct2 : Value}
    {f3 : Addr} {od3 an3 : Option Addr} {sl3 : Array (Option Value)} {oc3 kV3 dc3 pm3 cd3 ct3 : Value}
    {f4 : Addr} {od4 an4 : Option Addr} {sl4 : Array (Option Value)} {oc4 kV4 dc4 pm4 cd4 ct4 : Value}
    {f5 : Addr} {od5 an5 : Option Addr} {sl5 : Array (Option Value)} {oc5 kV5 dc5 pm5 cd5 ct5 : Value}
    {f6 : Addr} {od6 an6 : Option Addr} {sl6 : Array (Option Value)} {oc6 kV6 dc6 pm6 cd6 ct6 : Value}
    {f7 : Addr} {od7 an7 : Option Addr} {sl7 : Array (Option Value)} {oc7 kV7 dc7 pm7 cd7 ct7 : Value}
    {f8 : Addr} {od8 an8 : Option Addr} {sl8 : Array (Option Value)} {oc8 kV8 dc8 pm8 cd8 ct8 : Value}
    {f9 : Addr} {od9 an9 : Option Addr} {sl9 : Array (Option Value)} {oc9 kV9 dc9 pm9 cd9 ct9 : Value}
    {f10 : Addr} {od10 an10 : Option Addr} {sl10 : Array (Option Value)} {oc10 kV10 dc10 pm10 cd10 ct10 : Value}
    {f11 : Addr} {od11 an11 : Option Addr} {sl11 : Array (Option Value)} {oc11 kV11 dc11 pm11 cd11 ct11 : Value}
    {f12 : Addr} {od12 an12 : Option Addr} {sl12 : Array (Option Value)} {oc12 kV12 dc12 pm12 cd12 ct12 : Value}
    {f13 : Addr} {od13 an13 : Option Addr} {sl13 : Array (Option Value)} {oc13 kV13 dc13 pm13 ct13 : Value} {cc13 : Addr}
    {f14 : Addr} {od14 an14 : Option Addr} {sl14 : Array (Option Value)} {oc14 kV14 dc14 pm14 cd14 ct14 : Value}
    {f15 : Addr} {od15 an15 : Option Addr} {sl15 : Array (Option Value)} {oc15 kV15 dc15 pm15 ct15 : Value} {cc15 : Addr}
    {xC0 xL0 xF0 : Addr} {xN0 : Addr} {xnm0 xq0 : Str} {xbs0 : List Value} {xsn0 : List Str} {xsu0 : List Value} {xab0 : Bool} {xco0 : Option Bool} {xdd0 : Option Addr} {xm0 xn0 xo0 xp0 xr0 : Option Value} {xoc0 xkV0 xdc0 xpm0 xcd0 xct0 : Value} {xod0 xan0 : Option Addr} {xsl0 : Array (Option Value)}
    (a0 : PySem.W.nsIn K mainGlobals "changed" = some (some (.ref f0))) (l0 : K.lookup f0 = some ⟨oc0, od0, .func (PySem.W.fnOf "changed" "changed" (defArgs s_p_changed) (defBody s_p_changed) (defScope s_p_changed) .none kV0 dc0 pm0 an0 cd0 ct0), sl0⟩) (c0 : PySem.W.codeIn K cd0 "changed" = true) (k0 : PySem.W.keepIn K (.ref f0) = true)
    (a1 : PySem.W.nsIn K mainGlobals "changed_by" = some (some (.ref f1))) (l1 : K.lookup f1 = some ⟨oc1, od1, .func (PySem.W.fnOf "changed_by" "changed_by" (defArgs s_p_changed_by) (defBody s_p_changed_by) (defScope s_p_changed_by) .none kV1 dc1 pm1 an1 cd1 ct1), sl1⟩) (c1 : PySem.W.codeIn K cd1 "changed_by" = true) (k1 : PySem.W.keepIn K (.ref f1) = true)
    (a2 : PySem.W.nsIn K mainGlobals "_same_begin" = some (some (.ref f2))) (l2 : K.lookup f2 = some ⟨oc2, od2, .func (PySem.W.fnOf "_same_begin" "_same_begin" (defArgs s_p_same_begin) (defBody s_p_same_begin) (defScope s_p_same_begin) .none kV2 dc2 pm2 an2 cd2 ct2), sl2⟩) (c2 : PySem.W.codeIn K cd2 "_same_begin" = true) (k2 : PySem.W.keepIn K (.ref f2) = true)
    (a3 : PySem.W.nsIn K mainGlobals "change_between" = some (some (.ref f3))) (l3 : K.lookup f3 = some ⟨oc3, od3, .func (PySem.W.fnOf "change_between" "change_between" (defArgs s_p_change_between) (defBody s_p_change_between) (defScope s_p_change_between) .none kV3 dc3 pm3 an3 cd3 ct3), sl3⟩) (c3 : PySem.W.codeIn K cd3 "change_between" = true) (k3 : PySem.W.keepIn K (.ref f3) = true)
    (a4 : PySem.W.nsIn K mainGlobals "back_of" = some (some (.ref f4))) (l4 : K.lookup f4 = some ⟨oc4, od4, .func (PySem.W.fnOf "back_of" "back_of" (defArgs s_p_back_of) (defBody s_p_back_of) (defScope s_p_back_of) .none kV4 dc4 pm4 an4 cd4 ct4), sl4⟩) (c4 : PySem.W.codeIn K cd4 "back_of" = true) (k4 : PySem.W.keepIn K (.ref f4) = true)
    (a5 : PySem.W.nsIn K mainGlobals "_law_bag" = some (some (.ref f5))) (l5 : K.lookup f5 = some ⟨oc5, od5, .func (PySem.W.fnOf "_law_bag" "_law_bag" (defArgs s_l_bag) (defBody s_l_bag) (defScope s_l_bag) .none kV5 dc5 pm5 an5 cd5 ct5), sl5⟩) (c5 : PySem.W.codeIn K cd5 "_law_bag" = true) (k5 : PySem.W.keepIn K (.ref f5) = true)
    (a6 : PySem.W.nsIn K mainGlobals "_law_take" = some (some (.ref f6))) (l6 : K.lookup f6 = some ⟨oc6, od6, .func (PySem.W.fnOf "_law_take" "_law_take" (defArgs s_l_take) (defBody s_l_take) (defScope s_l_take) .none kV6 dc6 pm6 an6 cd6 ct6), sl6⟩) (c6 : PySem.W.codeIn K cd6 "_law_take" = true) (k6 : PySem.W.keepIn K (.ref f6) = true)
    (a7 : PySem.W.nsIn K mainGlobals "_law_one" = some (some (.ref f7))) (l7 : K.lookup f7 = some ⟨oc7, od7, .func (PySem.W.fnOf "_law_one" "_law_one" (defArgs s_l_one) (defBody s_l_one) (defScope s_l_one) .none kV7 dc7 pm7 an7 cd7 ct7), sl7⟩) (c7 : PySem.W.codeIn K cd7 "_law_one" = true) (k7 : PySem.W.keepIn K (.ref f7) = true)
    (a8 : PySem.W.nsIn K mainGlobals "_law_alike" = some (some (.ref f8))) (l8 : K.lookup f8 = some ⟨oc8, od8, .func (PySem.W.fnOf "_law_alike" "_law_alike" (defArgs s_l_alike) (defBody s_l_alike) (defScope s_l_alike) .none kV8 dc8 pm8 an8 cd8 ct8), sl8⟩) (c8 : PySem.W.codeIn K cd8 "_law_alike" = true) (k8 : PySem.W.keepIn K (.ref f8) = true)
    (a9 : PySem.W.nsIn K mainGlobals "_law_changed" = some (some (.ref f9))) (l9 : K.lookup f9 = some ⟨oc9, od9, .func (PySem.W.fnOf "_law_changed" "_law_changed" (defArgs s_l_changed) (defBody s_l_changed) (defScope s_l_changed) .none kV9 dc9 pm9 an9 cd9 ct9), sl9⟩) (c9 : PySem.W.codeIn K cd9 "_law_changed" = true) (k9 : PySem.W.keepIn K (.ref f9) = true)
    (a10 : PySem.W.nsIn K mainGlobals "_law_change_between" = some (some (.ref f10))) (l10 : K.lookup f10 = some ⟨oc10, od10, .func (PySem.W.fnOf "_law_change_between" "_law_change_between" (defArgs s_l_change_between) (defBody s_l_change_between) (defScope s_l_change_between) .none kV10 dc10 pm10 an10 cd10 ct10), sl10⟩) (c10 : PySem.W.codeIn K cd10 "_law_change_between" = true) (k10 : PySem.W.keepIn K (.ref f10) = true)
    (a11 : PySem.W.nsIn K mainGlobals "_law_heard" = some (some (.ref f11))) (l11 : K.lookup f11 = some ⟨oc11, od11, .func (PySem.W.fnOf "_law_heard" "_law_heard" (defArgs s_l_heard) (defBody s_l_heard) (defScope s_l_heard) .none kV11 dc11 pm11 an11 cd11 ct11), sl11⟩) (c11 : PySem.W.codeIn K cd11 "_law_heard" = true) (k11 : PySem.W.keepIn K (.ref f11) = true)
    (a12 : PySem.W.nsIn K mainGlobals "_law_drawn_change" = some (some (.ref f12))) (l12 : K.lookup f12 = some ⟨oc12, od12, .func (PySem.W.fnOf "_law_drawn_change" "_law_drawn_change" (defArgs s_l_drawn_change) (defBody s_l_drawn_change) (defScope s_l_drawn_change) .none kV12 dc12 pm12 an12 cd12 ct12), sl12⟩) (c12 : PySem.W.codeIn K cd12 "_law_drawn_change" = true) (k12 : PySem.W.keepIn K (.ref f12) = true)
    (a13 : PySem.W.nsIn K mainGlobals "_law_rows_right" = some (some (.ref f13))) (l13 : K.lookup f13 = some ⟨oc13, od13, .func (PySem.W.fnOf "_law_rows_right" "_law_rows_right" (defArgs s_l_rows_right) (defBody s_l_rows_right) (defScope s_l_rows_right) .none kV13 dc13 pm13 an13 (.ref cc13) ct13), sl13⟩) (c13 : PySem.W.codeIn K (.ref cc13) "_law_rows_right" = true) (k13 : PySem.W.keepIn K (.ref f13) = true) (hh13 : PySem.W.codeHdIn K cc13 137 = true) (hn13 : K.lookup 137 = none)
    (a14 : PySem.W.nsIn K mainGlobals "_law_all_between" = some (some (.ref f14))) (l14 : K.lookup f14 = some ⟨oc14, od14, .func (PySem.W.fnOf "_law_all_between" "_law_all_between" (defArgs s_l_all_between) (defBody s_l_all_between) (defScope s_l_all_between) .none kV14 dc14 pm14 an14 cd14 ct14), sl14⟩) (c14 : PySem.W.codeIn K cd14 "_law_all_between" = true) (k14 : PySem.W.keepIn K (.ref f14) = true)
    (a15 : PySem.W.nsIn K mainGlobals "law" = some (some (.ref f15))) (l15 : K.lookup f15 = some ⟨oc15, od15, .func (PySem.W.fnOf "law" "law" (defArgs s_p_law) (defBody s_p_law) (defScope s_p_law) .none kV15 dc15 pm15 an15 (.ref cc15) ct15), sl15⟩) (c15 : PySem.W.codeIn K (.ref cc15) "law" = true) (k15 : PySem.W.keepIn K (.ref f15) = true) (hh15 : PySem.W.codeHdIn K cc15 151 = true) (hn15 : K.lookup 151 = none)
    (z_abs : PySem.W.nsIn K mainGlobals "abs" = some none)
    (z_int : PySem.W.nsIn K mainGlobals "int" = some none)
    (z_len : PySem.W.nsIn K mainGlobals "len" = some none)
    (z_range : PySem.W.nsIn K mainGlobals "range" = some none)
    (z_min : PySem.W.nsIn K mainGlobals "min" = some none)
    (z_max : PySem.W.nsIn K mainGlobals "max" = some none)
    (z_repr : PySem.W.nsIn K mainGlobals "repr" = some none)
    (z_tuple : PySem.W.nsIn K mainGlobals "tuple" = some none)
    (xa0 : PySem.W.nsIn K mainGlobals "NoChange" = some (some (.ref xC0))) (xl0 : K.lookup xC0 = some (excClassObj xnm0 xq0 xC0 xN0 xbs0 [.ref xL0, .type "ValueError", .type "Exception", .type "BaseException", .type "object"] true xsn0 xsu0 xab0 xco0 xdd0 xm0 xn0 xo0 xp0 xr0 "ValueError.__new__")) (xs0 : PySem.W.findIn K (.ref xC0) "__setattr__" = some (some (.builtin "object.__setattr__"))) (xg0 : PySem.W.findIn K (.ref xC0) "__getattribute__" = some (some (.builtin "BaseException.__getattribute__"))) (xh0 : PySem.W.findIn K (.ref xC0) "__getattr__" = some none) (xw0 : PySem.W.findIn K (.ref xC0) "change" = some none) (xi0 : PySem.W.findIn K (.ref xC0) "__init__" = some (some (.ref xF0))) (xt0 : PySem.W.typeIn K (.ref xF0) = some (.type "function")) (xy0 : K.lookup xF0 = some ⟨xoc0, xod0, .func (PySem.W.fnOf "__init__" "NoChange.__init__" (defArgs (inClass (topS 2) 0)) (defBody (inClass (topS 2) 0)) (defScope (inClass (topS 2) 0)) .none xkV0 xdc0 xpm0 xan0 xcd0 xct0), xsl0⟩) (xz0 : PySem.W.codeIn K xcd0 "NoChange.__init__" = true) (xk0 : PySem.W.keepIn K (.ref xF0) = true) (xb0 : PySem.W.keepIn K (.ref xC0) = true) (xe0 : PySem.W.subIn K (.ref xC0) (.type "BaseException") = some true) (xj0 : PySem.W.typeIn K (.ref xC0) = some (.type "type")) (xd0 : PySem.W.hasDictIn K xC0 = true) (xv0 : PySem.W.isClsIn K xC0 = true) (xu0 : PySem.W.subIn K (.ref xC0) (.ref xC0) = some true) :
    ∃ (fd : FuncData) (L : List (Addr × Addr)), (∀ p ∈ L, PySem.W.codeHdIn K p.1 p.2 = true ∧ K.lookup p.2 = none) ∧ L.map (·.2) = [137, 151] ∧ (∀ (s : Shared) (v : Value), BindsTo s fd ⟨[v], []⟩ [("_law_script", v)]) ∧ ∀ base : Heap, K.In base → base.Ns mainGlobals mg → (∀ p ∈ L, LamX.TabB base mg p.1 p.2) → FnG l.prog w K mg base 8 fa fd ["_law_script"] (spLaw6 K Lw.tl6) := by
  have e := hfa.symm.trans (PySem.W.mg_of X G a15)
  cases e
  have T : Txt K mg w := {
    d_p_changed := defIn_mk X G a0 l0 c0 k0 fun _ _ _ _ _ _ us hl => match us, hl with | [_, _], _ => rfl
    d_p_changed_by := defIn_mk X G a1 l1 c1 k1 fun _ _ _ _ _ _ us hl => match us, hl with | [_, _], _ => rfl
    d_p_same_begin := defIn_mk X G a2 l2 c2 k2 fun _ _ _ _ _ _ us hl => match us, hl with | [_, _], _ => rfl
    d_p_change_between := defIn_mk X G a3 l3 c3 k3 fun _ _ _ _ _ _ us hl => match us, hl with | [_, _], _ => rfl
    d_p_back_of := defIn_mk X G a4 l4 c4 k4 fun _ _ _ _ _ _ us hl => match us, hl with | [_, _], _ => rfl
    d_l_bag := defIn_mk X G a5 l5 c5 k5 fun _ _ _ _ _ _ us hl => match us, hl with | [_], _ => rfl
    d_l_take := defIn_mk X G a6 l6 c6 k6 fun _ _ _ _ _ _ us hl => match us, hl with | [_, _], _ => rfl
    d_l_one := defIn_mk X G a7 l7 c7 k7 fun _ _ _ _ _ _ us hl => match us, hl with | [_, _], _ => rfl
    d_l_alike := defIn_mk X G a8 l8 c8 k8 fun _ _ _ _ _ _ us hl => match us, hl with | [_, _], _ => rfl
    d_l_changed := defIn_mk X G a9 l9 c9 k9 fun _ _ _ _ _ _ us hl => match us, hl with | [_, _], _ => rfl
    d_l_change_between := defIn_mk X G a10 l10 c10 k10 fun _ _ _ _ _ _ us hl => match us, hl with | [_, _], _ => rfl
    d_l_heard := defIn_mk X G a11 l11 c11 k11 fun _ _ _ _ _ _ us hl => match us, hl with | [_], _ => rfl
    d_l_drawn_change := defIn_mk X G a12 l12 c12 k12 fun _ _ _ _ _ _ us hl => match us, hl with | [_, _], _ => rfl
    d_l_rows_right := defIn_mk X G a13 l13 c13 k13 fun _ _ _ _ _ _ us hl => match us, hl with | [_, _], _ => rfl
    d_l_all_between := defIn_mk X G a14 l14 c14 k14 fun _ _ _ _ _ _ us hl => match us, hl with | [_, _], _ => rfl
    d_p_law := defIn_mk X G a15 l15 c15 k15 fun _ _ _ _ _ _ us hl => match us, hl with | [_], _ => rfl
    n_abs := PySem.W.mg_none_of X G z_abs
    n_int := PySem.W.mg_none_of X G z_int
    n_len := PySem.W.mg_none_of X G z_len
    n_range := PySem.W.mg_none_of X G z_range
    n_min := PySem.W.mg_none_of X G z_min
    n_max := PySem.W.mg_none_of X G z_max
    n_repr := PySem.W.mg_none_of X G z_repr
    n_tuple := PySem.W.mg_none_of X G z_tuple
  }
  have F := fun_mk (st := s_p_law) l15 c15 k15
  have tx0 : XcT K mg "NoChange" "change" xC0 xF0 := ⟨PySem.W.mg_of X G xa0, ⟨⟨_, _, _, _, _, _, _, _, _, _, _, _, _, _, _, xl0, by show PySem.HandSPX.refsVE [.type "ValueError", .type "Exception", .type "BaseException", .type "object"] = true; decide +kernel⟩, xs0, xe0, xj0, xb0⟩, xi0, xt0, xw0, ⟨xg0, xh0, xe0, xd0⟩, exm_me xe0 xv0 xj0 xu0⟩
  have fx0 := fun_mk (st := (inClass (topS 2) 0)) xy0 xz0 xk0
  have bx0 := fx0.binds (ps := ["self", "change"]) fun _ _ _ _ _ _ us hl => match us, hl with | [_, _], _ => rfl
  have rx0 : ∀ base : Heap, XcR l.prog w K mg base "NoChange" "change" xC0 := fun base => ⟨_, _, tx0, xi_ok tx0 fx0 ⟨rfl, rfl, rfl, by decide +kernel, rfl, by decide +kernel, by decide +kernel⟩ rfl (.inl rfl) (.inl rfl) (by decide) (by decide), bx0⟩
  have fk13 := fun_mk (st := s_l_rows_right) l13 c13 k13
  have dk13 : DefK K mg "_law_rows_right" s_l_rows_right ["_law_bag_here", "_law_text"] cc13 := ⟨f13, _, _, _, _, _, _, _, _, l13, c13, k13, PySem.W.mg_of X G a13, fk13.binds fun _ _ _ _ _ _ us hl => match us, hl with | [_, _], _ => rfl⟩
  refine ⟨_, [(cc13, 137), (cc15, 151)], fun p hp => ?_, rfl, fun s v => .of_eq rfl, fun base _ _ TB => law_all T l15 c15 (rx0 base) dk13 (TB (cc13, 137) (by simp)) (TB (cc15, 151) (by simp))⟩
  simp only [List.mem_cons, List.not_mem_nil, or_false] at hp
  rcases hp with rfl | rfl
  · exact ⟨hh13, hn13⟩
  · exact ⟨hh15, hn15⟩
end Lw
open PySem PySem.W PyProof.Rows
set_option maxRecDepth 100000 in
set_option maxHeartbeats 0 in
theorem PySem.Challenge.cw_leastlaid_k60_texts_changed_holds : PySem.Challenge.rw_leastlaid_k60_texts_changed.Holds := by
  w_on; o_law; k_head; (case hw => w_witness2)
  k_fill
  refine Vf.walk_ofY (l := PySem.Challenge.rw_leastlaid_k60_texts_changed) (n := 63) (k := 8) (x := "_law_script") (sp := fun w => Lw.spLaw6 _ Lw.tl6) (Ts := [137, 151]) rfl (by decide) rfl ⟨rfl, by decide, by decide⟩ (fun w h Y => ⟨PySem.W.km_in_of Y, PySem.W.km_tabs_of Y⟩) ?F (fun _ _ a ns hl hT hS => ⟨a, ns, rfl, hS, hl, Lw.tabs0 hT, fun _ => rfl⟩)
  case F =>
    intro w mg fa h KX G hmg
    refine' Lw.all_mk KX G hmg ?a0 ?l0 ?c0 ?k0 ?a1 ?l1 ?c1 ?k1 ?a2 ?l2 ?c2 ?k2 ?a3 ?l3 ?c3 ?k3 ?a4 ?l4 ?c4 ?k4 ?a5 ?l5 ?c5 ?k5 ?a6 ?l6 ?c6 ?k6 ?a7 ?l7 ?c7 ?k7 ?a8 ?l8 ?c8 ?k8 ?a9 ?l9 ?c9 ?k9 ?a10 ?l10 ?c10 ?k10 ?a11 ?l11 ?c11 ?k11 ?a12 ?l12 ?c12 ?k12 ?a13 ?l13 ?c13 ?k13 ?hh13 ?hn13 ?a14 ?l14 ?c14 ?k14 ?a15 ?l15 ?c15 ?k15 ?hh15 ?hn15 ?z_abs ?z_int ?z_len ?z_range ?z_min ?z_max ?z_repr ?z_tuple ?xa0 ?xl0 ?xs0 ?xg0 ?xh0 ?xw0 ?xi0 ?xt0 ?xy0 ?xz0 ?xk0 ?xb0 ?xe0 ?xj0 ?xd0 ?xv0 ?xu0
    (case a0 => k_is)
    (case l0 => k_is)
    (case c0 => k_is)
    (case k0 => k_is)
    (case a1 => k_is)
    (case l1 => k_is)
    (case c1 => k_is)
    (case k1 => k_is)
    (case a2 => k_is)
    (case l2 => k_is)
    (case c2 => k_is)
    (case k2 => k_is)
    (case a3 => k_is)
    (case l3 => k_is)
    (case c3 => k_is)
    (case k3 => k_is)
    (case a4 => k_is)
    (case l4 => k_is)
    (case c4 => k_is)
    (case k4 => k_is)
    (case a5 => k_is)
    (case l5 => k_is)
    (case c5 => k_is)
    (case k5 => k_is)
    (case a6 => k_is)
    (case l6 => k_is)
    (case c6 => k_is)
    (case k6 => k_is)
    (case a7 => k_is)
    (case l7 => k_is)
    (case c7 => k_is)
    (case k7 => k_is)
    (case a8 => k_is)
    (case l8 => k_is)
    (case c8 => k_is)
    (case k8 => k_is)
    (case a9 => k_is)
    (case l9 => k_is)
    (case c9 => k_is)
    (case k9 => k_is)
    (case a10 => k_is)
    (case l10 => k_is)
    (case c10 => k_is)
    (case k10 => k_is)
    (case a11 => k_is)
    (case l11 => k_is)
    (case c11 => k_is)
    (case k11 => k_is)
    (case a12 => k_is)
    (case l12 => k_is)
    (case c12 => k_is)
    (case k12 => k_is)
    (case a13 => k_is)
    (case l13 => k_is)
    (case c13 => k_is)
    (case k13 => k_is)
    (case hh13 => first | kernel_rfl | rfl | with_unfolding_all rfl | (trace_state; fail "no"))
    (case hn13 => first | kernel_rfl | rfl | with_unfolding_all rfl | (trace_state; fail "no"))
    (case a14 => k_is)
    (case l14 => k_is)
    (case c14 => k_is)
    (case k14 => k_is)
    (case a15 => k_is)
    (case l15 => k_is)
    (case c15 => k_is)
    (case k15 => k_is)
    (case hh15 => first | kernel_rfl | rfl | with_unfolding_all rfl | (trace_state; fail "no"))
    (case hn15 => first | kernel_rfl | rfl | with_unfolding_all rfl | (trace_state; fail "no"))
    (case z_abs => k_is)
    (case z_int => k_is)
    (case z_len => k_is)
    (case z_range => k_is)
    (case z_min => k_is)
    (case z_max => k_is)
    (case z_repr => k_is)
    (case z_tuple => k_is)
    (case xa0 => k_is)
    (case xl0 => k_is)
    (case xs0 => k_is)
    (case xg0 => k_is)
    (case xh0 => k_is)
    (case xw0 => k_is)
    (case xi0 => k_is)
    (case xt0 => k_is)
    (case xy0 => k_is)
    (case xz0 => k_is)
    (case xk0 => k_is)
    (case xb0 => k_is)
    (case xe0 => k_is)
    (case xj0 => k_is)
    (case xd0 => k_is)
    (case xv0 => k_is)
    (case xu0 => first | rfl | k_is)
