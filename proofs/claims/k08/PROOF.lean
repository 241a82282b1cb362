import PyProof.Rows.All
import Wide.All
import OpenK.AllK
import Wide.FinOn
import HandS.ForMost
import HandS.Evl
import HandS.Codes
import HandS.RaiseMore
import PyProof.ReprRoads
import HandS.RaiseOp
import HandS.Walk
import PyProof.StrLawsRepr
import PyProof.FitsInt
import PySem.Challenge.RW_leastlaid_k08_levels_and_needed_brackets
set_option Elab.async false
set_option linter.all false
set_option maxRecDepth 100000
set_option maxHeartbeats 4000000
/-! Own words, for every law: defs whose promise is kept where no repr is under way (FnG), repr of data, a list's item changed by +=. -/
namespace Vf
open PySem PySem.Spec PyProof.Rows L2

/-- a def that keeps its promise wherever no repr is under way -/
structure FnG (P : Program) (w : World) (K : PySem.W.Frag)
    (mg : Str → Option Value) (base : Heap) (k : Nat) (f : Addr)
    (fd : FuncData) (ps : List Str) (sp : Sp) : Prop where
  many : ∀ vs H Q E, sp vs H Q E → vs.length = ps.length
  go : ∀ (A : Around) (outer : List Env) (s : Shared) (H : Hp)
    (args : Args) (us : List Value) (vs : List V) (Q : VK) (E : XK),
    Room k A → A.guards = some [] → Env0 P w K mg base A outer s H →
    BindsTo s fd args (ps.zip us) → Vals vs us → sp vs H Q E →
    codeAny (model P w) A (.call (.ref f) args)
      (CR CX0 outer P w H s Q E) s

section
variable {P : Program} {w : World} {K : PySem.W.Frag}
  {mg : Str → Option Value} {base : Heap}

theorem FnG.of_fn {k : Nat} {f : Addr} {fd : FuncData} {ps : List Str} {sp : Sp}
    (F : FnOk P w K mg base CX0 k f fd ps sp) : FnG P w K mg base k f fd ps sp :=
  ⟨F.len, fun A o s H a us vs Q E hr _ e b r q =>
    F.run A o s H a us vs Q E hr e b r q⟩

/-- by its body, as Fun.ok does it -/
theorem fnG_of {x qual : Str} {st : Stmt} {f : Addr} {fd : FuncData}
    {N ps : List Str} {k : Nat} {sp : Sp}
    (F : Fun K x qual st f fd) (S : FnScope N ps (defScope st))
    (many : ∀ vs H Q E, sp vs H Q E → vs.length = ps.length)
    (body : ∀ (cdv : Value) (A : Around) (outer : List Env)
      (s : Shared) (H : Hp) (vs : List V) (Q : VK) (E : XK),
      Room k (A.deeper (envOfC qual (defScope st)
        s.heap.objs.size f cdv)) →
      A.guards = some [] → sp vs H Q E →
      ∃ t, PSs (cxOf CX0 P w K mg base N qual (defScope st)
          f cdv A outer s H E).nox (defBody st) t ∧
        t { nx := fun _ H' => Q .non H', rt := Q }
          (start N vs) H) :
    FnG P w K mg base (k + 1) f fd ps sp := by
  obtain ⟨_, _, _, _, _, _, cdv, _, _, rfl, lk, hcd⟩ := F.ex
  refine ⟨many, fun A outer s H args us vs Q E hr hg e0 hb r hsp => ?_⟩
  have hlen := many _ _ _ _ hsp
  have KX : K.In s.heap := e0.mod.kin.keeps
    (fun b o e => (e0.bs b o e).1)
  have lim := e0.mod.nolimit.keeps
    (fun b o e => (e0.bs b o e).1)
  have kinds : ∀ y ∈ ps.zip us,
      (defScope st).names.lookup y.1 = some .local ∨
      ((defScope st).names.lookup y.1 = some .cell ∧
        ((cellsFrom (s.heap.objs.size + 1)
          (defScope st).names []).lookup y.1).isSome = true) := by
    rintro ⟨n, v⟩ hy
    cases S.par n (List.of_mem_zip hy).1 with
    | inl q => exact .inl q
    | inr q => exact .inr ⟨q, PySem.W.cellsFrom_some _ _ _ (.inl q)⟩
  refine codeAny_call_function hr.depth (KX _ _ lk) rfl
    S.co S.gen rfl (PySem.W.codeRec_of KX hcd) (hb _ _ _ _ ?_)
  refine wpAny_newFunctionEnv_cells S.kind kinds
    (fun env he s1 x => ?_)
  subst he
  refine ⟨lim.keeps x.toInCall.keep, codeAny_func ?_⟩
  obtain ⟨t, ht, hq⟩ := body cdv A outer s H vs Q E
    (hr.deeper _) hg hsp
  have I := inv_start (CX := CX0) (E := E) S hr.hd e0 hlen r x
  refine wpAny_mono (ht.nox.run [] s1 (start N vs) H _ I hq)
    (fun fl s' hs => ?_) (fun _ _ hs => hs)
  cases fl with
  | brk => exact (hs.choose_spec.choose_spec.2 : False).elim
  | cont => exact (hs.choose_spec.choose_spec.2 : False).elim
  | next =>
    obtain ⟨_, H', J, q⟩ := hs
    exact ⟨V.non, H', J.os, J.bare, J.base, J.hok, rfl, q⟩
  | ret u =>
    obtain ⟨v, _, H', J, rv, q⟩ := hs
    exact ⟨v, H', J.os, J.bare, J.base, J.hok, rv, q⟩
end

/-- a call of such a def -/
theorem pe_callG {X : Cx} {k : Nat} {f : Addr} {fd : FuncData}
    {ps : List Str} {sp : Sp} {x : Str} {p pos : Pos}
    {e : Expr} {es : List Expr} {t : TA}
    (F : FnG X.prog X.w X.K X.mg X.base k f fd ps sp)
    (hr : Room k X.A) (gd : X.A.guards = some [])
    (hg : Gl X x) (hm : X.mg x = some (.ref f))
    (hk : PySem.W.keepIn X.K (.ref f) = true)
    (hb : Binds X.K fd ps []) (ha : PA X (e :: es) t)
    (hdb : (x == ("__debug__" : Str)) = false := by decide)
    (he : starEach (e :: es) X.env =
      (false, eval e X.env) :: starEach es X.env := by rfl)
    (hpl : (backTo pos (starEach es X.env)).any (·.1) = false := by rfl) :
    PE X (.Call (.Name x p) (e :: es) [] pos) (tCall sp [] E0 t) := by
  refine ⟨fun pins s σ H Q I h => wpAny_Call_Name_kw (ld_glob I hg hm ?_ hdb)⟩
  refine PySem.W.callWith_K (h₀ := X.base) I.ok.mod.kin hk
    (thn (ha.run pos pins s σ H _ I h) ?_) he hpl
  rintro us s1 ⟨vs, H1, I1, r, q⟩
  refine ⟨I1.kIn, ?_⟩
  have q' : sp vs H1 Q E0 := by
    have := q
    rw [List.append_nil] at this
    exact this
  have hl : us.length = ps.length := by
    rw [← r.length]
    exact F.many _ _ _ _ q'
  have hb' := hb s1 us I1.kIn (by rw [List.append_nil]; exact hl)
  rw [List.append_nil] at hb'
  refine wpAny_call (codeAny_mono (F.go X.A X.stack s1 H1 ⟨us, []⟩ us vs
    Q E0 hr gd I1.env0 hb' r q') ?_)
  intro res s' hq
  cases res with
  | error e => exact (hq : False).elim
  | ok fl =>
    cases fl with
    | ret u => exact I1.after hq
    | next => exact (hq : False).elim
    | brk => exact (hq : False).elim
    | cont => exact (hq : False).elim

/-- repr of a list or a tuple of data -/
theorem call_reprD {X : Cx} (gd : X.A.guards = some []) (hu : X.A.units + 64 < cLine) :
    CallR X (.builtin "repr") (fun xs H Q => ∃ a d, xs = [.ref a] ∧
      Dp X.K H (.ref a) d ∧ d.showable = true ∧ d.hasDict = false ∧
      d.depth ≤ 60 ∧ d.shown.length ≤ sizeLine ∧ Q (.str d.shown) H) := by
  intro pins s σ H xs us Q I r h
  obtain ⟨a, d, rfl, hd, sh, nd, dp, sz, q⟩ := h
  cases r with
  | cons rv rn =>
    cases rn
    obtain rfl := rv
    obtain ⟨as, rd⟩ := Dp.reads I d _ _ hd rfl
    refine repr_of_reads' rd sh (PyData.noDict_hsm nd) gd (by omega)
      (fun _ _ e => e) (fun h' u tk hk => ?_) sz
    exact ⟨.str d.shown, H, I.kept hk, ⟨u, rfl⟩, q⟩

end Vf

set_option Elab.async false
set_option linter.all false
set_option maxRecDepth 100000
set_option maxHeartbeats 4000000
/-! The end of a law whose def is an FnG. -/
namespace Vf
open PySem PySem.Spec PyProof.Rows L2

section
variable {P : Program} {w : World} {K : PySem.W.Frag}
  {mg mb : Str → Option Value} {k : Nat} {fa a : Addr} {fd : FuncData}
  {x : Str} {sp : Sp} {s₁ : Shared} {vs : List Value} {ns : List Int}

/-- what must be true behind the call -/
abbrev LawEnd (s₁ : Shared) : Result → Shared → Prop := fun r s' =>
  r = .ok (.ret (.bool true)) ∧ OldK s₁.heap s'.heap ∧
    s'.os = s₁.os ∧ AllBare s'.gens

theorem law_goes (KX : K.In s₁.heap)
    (hns : s₁.heap.Ns mainGlobals mg) (hb : s₁.heap.Ns builtinsNs mb)
    (hbb : ∀ y : Str, y ≠ "__name__" → mb y = bootBuiltins y)
    (hlim : s₁.heap.NoLimit) (hgen : s₁.gens = #[])
    (ha : s₁.heap.get? a =
      some { cls := .type "list", data := .seq vs.toArray })
    (hr : Room k callerA)
    (F : ∀ base : Heap, K.In base → base.Ns mainGlobals mg →
      FnG P w K mg base k fa fd [x] sp)
    (bind : ∀ (s : Shared) (u : Value),
      BindsTo s fd ⟨[u], []⟩ [(x, u)])
    (H : Hp) (hO : Only H) (ok : HOk P w H s₁.heap)
    (alone : ∀ b, H b ≠ none → b = a)
    (notK : H a ≠ none → K.lookup a = none)
    (hs : sp [.ref a] H (fun v _ => v = .bl true) fun _ _ _ => False) :
    codeAny (model P w) callerA (.call (.ref fa) ⟨[.ref a], []⟩)
      (LawEnd s₁) s₁ := by
  have free : ∀ {b : Addr} {o : Obj} {es : Array DictEntry} {ep : Nat},
      s₁.heap.get? b = some o → o.data = .dict es ep → H b = none := by
    intro b o es ep e d
    cases q : H b with
    | none => rfl
    | some u =>
      have z : b = a := alone b (by rw [q]; exact Option.some_ne_none u)
      rw [z, ha] at e
      cases e
      cases d
  have ns' : ∀ {b : Addr} {m : Str → Option Value},
      s₁.heap.Ns b m → (hidT s₁.heap H).Ns b m := by
    rintro b m ⟨o, es, ep, e, d, r⟩
    exact ⟨o, es, ep, hidT_get e (free e d), d, r⟩
  have kin : K.In (hidT s₁.heap H) := by
    intro b o e
    refine hidT_get (KX b o e) ?_
    cases q : H b with
    | none => rfl
    | some u =>
      have z : b = a := alone b (by rw [q]; exact Option.some_ne_none u)
      have z2 := notK (by rw [← z, q]; exact Option.some_ne_none u)
      rw [z, z2] at e
      cases e
  have lim' : (hidT s₁.heap H).NoLimit := by
    obtain ⟨mc, h1, h2⟩ := hlim
    exact ⟨mc, ns' h1, h2⟩
  have M : Mod K mg (hidT s₁.heap H) :=
    ⟨kin, ns' hns, ⟨mb, ns' hb, hbb⟩, lim'⟩
  have none_in : ∀ b : Addr, b ∉ ([] : List Addr) := fun b => by simp
  have env : Env0 P w K mg (hidT s₁.heap H) callerA [] s₁ H :=
    ⟨rfl, M, fun b o e => of_hidT e, Nat.le_of_eq (hidT_size _ _),
      trivial, fun b z => absurd z (none_in b), ok, .of_eq hgen⟩
  refine codeAny_mono ((F _ kin (ns' hns)).go callerA [] s₁ H
    ⟨[.ref a], []⟩ [.ref a] [.ref a] _ _ hr rfl env
    (bind s₁ (.ref a)) (.cons rfl .nil) hs) ?_
  intro r s' h
  cases r with
  | error e => exact (h : False).elim
  | ok fl =>
    cases fl with
    | next => exact (h : False).elim
    | brk => exact (h : False).elim
    | cont => exact (h : False).elim
    | ret u =>
      obtain ⟨v, H', os, bare, un, ok', rv, q⟩ := h
      obtain rfl : v = .bl true := q
      obtain rfl : u = Value.bool true := rv
      refine ⟨rfl, OldK.of_keep (fun b o e => ?_), os, bare⟩
      cases q : H b with
      | none => exact un.keep b o e q (none_in b) (none_in b)
      | some u =>
        rcases hO b with z | ⟨ob, xs, z⟩
        · rw [q] at z
          cases z
        · obtain ⟨e1, _⟩ := ok b _ z
          obtain ⟨e2, _⟩ := ok' b _ (un.frzs b ob _ z)
          rw [e] at e1
          cases e1
          exact e2

theorem law_goes2 (KX : K.In s₁.heap)
    (hns : s₁.heap.Ns mainGlobals mg) (hb : s₁.heap.Ns builtinsNs mb)
    (hbb : ∀ y : Str, y ≠ "__name__" → mb y = bootBuiltins y)
    (hlim : s₁.heap.NoLimit) (hgen : s₁.gens = #[])
    (ha : s₁.heap.get? a =
      some { cls := .type "list", data := .seq vs.toArray })
    (hi : IntsAre vs ns) (hl : ns.length ≤ sizeLine)
    (hr : Room k callerA)
    (F : ∀ base : Heap, K.In base → base.Ns mainGlobals mg →
      FnG P w K mg base k fa fd [x] sp)
    (bind : ∀ (s : Shared) (u : Value),
      BindsTo s fd ⟨[u], []⟩ [(x, u)])
    (hs : ∀ H : Hp, Only H → SqL K H a (ns.map V.int) →
      sp [.ref a] H (fun v _ => v = .bl true) fun _ _ _ => False) :
    codeAny (model P w) callerA (.call (.ref fa) ⟨[.ref a], []⟩)
      (LawEnd s₁) s₁ := by
  have rv := vals_ints hi
  cases hk : K.lookup a with
  | some o =>
    have e := KX a o hk
    rw [ha] at e
    cases e
    refine law_goes KX hns hb hbb hlim hgen ha hr F bind
      (fun _ => none) (fun _ => .inl rfl) (fun b u z => by cases z)
      (fun b z => absurd rfl z) (fun z => absurd rfl z) (hs _ (fun _ => .inl rfl) ?_)
    refine .inr ⟨_, vs.toArray, _, hk, rfl, rfl, rfl, ?_, by simpa using rv⟩
    rw [List.size_toArray, hi.length]
    exact hl
  | none =>
    have only : Only (fun b => if b = a then some (.frz { cls := .type "list", data := .seq vs.toArray } (.lst (ns.map V.int))) else none) := by
      intro b
      by_cases q : b = a
      · exact .inr ⟨_, _, if_pos q⟩
      · exact .inl (if_neg q)
    refine law_goes KX hns hb hbb hlim hgen ha hr F bind _ only
      (fun b u z => ?_) (fun b z => ?_) (fun _ => hk)
      (hs _ only (.inl (.inr ⟨_, if_pos rfl⟩)))
    · by_cases q : b = a
      · have z' := (if_pos q).symm.trans z
        cases z'
        subst q
        exact ⟨ha, by rw [List.length_map]; exact hl, vs, _, rv, ha⟩
      · have z' := (if_neg q).symm.trans z
        cases z'
    · by_cases q : b = a
      · exact q
      · exact absurd (if_neg q) z
end

/-- the goal that the head leaves -/
theorem walk_ofG {l : PySem.W.OpenLaw} {n k : Nat} {q : Program}
    {loose : List Str} {XP : (Str → Option Value) → Heap → Prop}
    {YP : World → Heap → Prop} {d : DefRec}
    {K : Params → PySem.W.Frag} {sp : World → Sp} {x : Str}
    (hn : l.most = some n) (hn2 : n ≤ sizeLine)
    (hdf : d.params.defaults = []) (hr : Room k callerA)
    (hY : ∀ (w : World) (h : Heap), YP w h → (K w.params).In h)
    (F : ∀ (w : World) (mg : Str → Option Value) (fa : Addr) (h : Heap),
      (K w.params).In h → h.Ns mainGlobals mg →
      mg d.name = some (.ref fa) →
      ∃ fd : FuncData,
        (∀ (s : Shared) (u : Value), BindsTo s fd ⟨[u], []⟩ [(x, u)]) ∧
        ∀ base : Heap, (K w.params).In base → base.Ns mainGlobals mg →
          FnG l.prog w (K w.params) mg base k fa fd [x] (sp w))
    (hsp : ∀ (w : World) (H : Hp) (a : Addr) (ns : List Int),
      ns.length ≤ n → Only H → SqL (K w.params) H a (ns.map V.int) →
      sp w [.ref a] H (fun v _ => v = .bl true) fun _ _ _ => False) :
    PySem.W.WalkO q loose XP YP l.row.toRowW d []
      (fun f vs => PySem.call f vs) := by
  refine Att.attach_call hn hdf ?_
  intro w s₀ s₁ mg mb fa o pm cd doc a vs ns G Y ho hd hcd hmg hobj hints hlen hg
  have KX := hY w _ Y
  obtain ⟨fd, hb, hF⟩ := F w mg fa _ KX G.T.g hmg
  exact law_goes2 KX G.T.g G.T.b G.T.builtins G.T.nolimit hg hobj
    hints (Nat.le_trans hlen hn2) hr hF hb
    (fun H hO hS => hsp w H a ns hlen hO hS)
end Vf

set_option Elab.async false
set_option linter.all false
set_option maxRecDepth 100000
set_option maxHeartbeats 4000000
/-! Own words: defs of the module as they are called; a list's item by +=; the bag of a law's draws. -/
namespace Vf
open PySem PySem.Spec PyProof.Rows L2
open C8 (Cal pe_c pe_gc CalAt)

/-- a def of the text, as the top has laid it -/
structure DefIn (K : PySem.W.Frag) (mg : Str → Option Value) (x : Str) (st : Stmt) (ps : List Str) : Prop where
  ex : ∃ f fd, Fun K x x st f fd ∧ mg x = some (.ref f) ∧ Binds K fd ps []

section
variable {P : Program} {w : World} {K : PySem.W.Frag} {mg : Str → Option Value} {base : Heap}

theorem defIn_mk {x : Str} {st : Stmt} {ps : List Str} {h : Heap} {f : Addr} {oc : Value} {od an : Option Addr} {osl : Array (Option Value)} {kV doc pm cdv ct : Value}
    (X : K.In h) (G : h.Ns mainGlobals mg) (a : PySem.W.nsIn K mainGlobals x = some (some (.ref f)))
    (l : K.lookup f = some ⟨oc, od, .func (PySem.W.fnOf x x (defArgs st) (defBody st) (defScope st) .none kV doc pm an cdv ct), osl⟩)
    (c : PySem.W.codeIn K cdv x = true) (k : PySem.W.keepIn K (.ref f) = true)
    (b : ∀ (kV doc pm : Value) (an : Option Addr) (cdv ct : Value) (us : List Value), us.length = ps.length →
      bindArgs (PySem.W.fnOf x x (defArgs st) (defBody st) (defScope st) .none kV doc pm an cdv ct) ⟨us, []⟩ = pure (ps.zip us)) : DefIn K mg x st ps := by
  have F := fun_mk (st := st) l c k
  exact ⟨f, _, F, PySem.W.mg_of X G a, F.binds b⟩
theorem calOf {x : Str} {st : Stmt} {N ps : List Str} {k : Nat} {sp : Sp}
    (D : DefIn K mg x st ps) (S : FnScope N ps (defScope st))
    (many : ∀ vs H Q E, sp vs H Q E → vs.length = ps.length)
    (body : ∀ (f : Addr) (cdv : Value) (A : Around) (outer : List Env) (s : Shared) (H : Hp) (vs : List V) (Q : VK) (E : XK),
      Room k (A.deeper (envOfC x (defScope st) s.heap.objs.size f cdv)) → sp vs H Q E →
      ∃ t, PSs (cxOf CX0 P w K mg base N x (defScope st) f cdv A outer s H E).nox (defBody st) t ∧ t { nx := fun _ H' => Q .non H', rt := Q } (start N vs) H) :
    Cal P w K mg base (k + 1) x sp [] := by
  obtain ⟨f, fd, F, hm, hb⟩ := D.ex
  exact ⟨f, fd, ps, [], F.ok S many (fun cdv A o s H vs Q E hr h => body f cdv A o s H vs Q E hr h), hm, F.kp, hb, .nil⟩

/-- such a def, where no repr is under way -/
structure CalG (P : Program) (w : World) (K : PySem.W.Frag) (mg : Str → Option Value) (base : Heap) (k : Nat) (x : Str) (sp : Sp) : Prop where
  ex : ∃ (f : Addr) (fd : FuncData) (ps : List Str), FnG P w K mg base k f fd ps sp ∧ mg x = some (.ref f) ∧ PySem.W.keepIn K (.ref f) = true ∧ Binds K fd ps []
theorem calGOf {x : Str} {st : Stmt} {N ps : List Str} {k : Nat} {sp : Sp}
    (D : DefIn K mg x st ps) (S : FnScope N ps (defScope st))
    (many : ∀ vs H Q E, sp vs H Q E → vs.length = ps.length)
    (body : ∀ (f : Addr) (cdv : Value) (A : Around) (outer : List Env) (s : Shared) (H : Hp) (vs : List V) (Q : VK) (E : XK),
      Room k (A.deeper (envOfC x (defScope st) s.heap.objs.size f cdv)) → A.guards = some [] → sp vs H Q E →
      ∃ t, PSs (cxOf CX0 P w K mg base N x (defScope st) f cdv A outer s H E).nox (defBody st) t ∧ t { nx := fun _ H' => Q .non H', rt := Q } (start N vs) H) :
    CalG P w K mg base (k + 1) x sp := by
  obtain ⟨f, fd, F, hm, hb⟩ := D.ex
  exact ⟨f, fd, ps, fnG_of F S many (fun cdv A o s H vs Q E hr h => body f cdv A o s H vs Q E hr h), hm, F.kp, hb⟩
end

section
variable {X : Cx} {k j : Nat} {x : Str} {sp : Sp} {p pos : Pos} {e o i : Expr} {es : List Expr} {t : TA}
theorem pe_c0 (c : Cal X.prog X.w X.K X.mg X.base k x sp []) (hr : Room j X.A) (hk : k ≤ j) (hg : Gl X x)
    (hdb : (x == ("__debug__" : Str)) = false := by decide) : PE X (.Call (.Name x p) [] [] pos) (tCall sp [] E0 tNil) := by
  obtain ⟨f, fd, ps, ds, F, hm, kp, b, d⟩ := c.ex
  exact pe_call0 F (hr.mono hk) hg hm kp b d pass0 hdb
theorem pe_cG (c : CalG X.prog X.w X.K X.mg X.base k x sp) (hr : Room k X.A) (gd : X.A.guards = some []) (hg : Gl X x) (ha : PA X (e :: es) t)
    (hdb : (x == ("__debug__" : Str)) = false := by decide) (he : starEach (e :: es) X.env = (false, eval e X.env) :: starEach es X.env := by rfl) (hpl : (backTo pos (starEach es X.env)).any (·.1) = false := by rfl) :
    PE X (.Call (.Name x p) (e :: es) [] pos) (tCall sp [] E0 t) := by
  obtain ⟨f, fd, ps, F, hm, kp, b⟩ := c.ex
  exact pe_callG F hr gd hg hm kp b ha hdb he hpl

/-- xs[i] read on the way of xs[i] += .. -/
theorem get_list : PGet X (rIxL X.K) := by
  intro pins s σ H x y v u Q I rx ry h
  obtain ⟨p, xs, i, z, rfl, rfl, hq, he, q⟩ := h
  cases rx
  obtain ⟨t, rfl⟩ := ry
  obtain ⟨its, r, pl, hz⟩ := I.list hq
  obtain ⟨j, h1, h2, h3, h4, h5⟩ := atI_get he
  obtain ⟨w, ew, rw'⟩ := r.get h2
  have hl := r.length
  have hn := line63
  have fin : EP X pins σ Q w s := ⟨z, H, I, rw', q⟩
  by_cases h0 : 0 ≤ i
  · have hj : i.toNat = j := by
      rw [seqIndex_of h0 h5] at h1
      exact Option.some.inj h1
    exact wpAny_getItem_list pl.isList h0 (by omega) (by rw [hj]; simpa using ew) fin
  · have hj : (i + (its.toArray.size : Int)).toNat = j := by
      rw [seqIndex_neg (by omega) h4] at h1
      rw [List.size_toArray, ← hl]
      exact Option.some.inj h1
    exact wpAny_getItem_list_neg pl.isList (by omega) (by rw [List.size_toArray]; omega) (by omega) (by rw [hj]; simpa using ew) fin
end

/-! ### the bag -/
/-- all but b stands as it stood -/
def Fr (b : Addr) (H H' : Hp) : Prop := ∀ a o, a ≠ b → H a = some o → H' a = some o
theorem Fr.refl (b : Addr) (H : Hp) : Fr b H H := fun _ _ _ h => h
theorem Fr.trans {b : Addr} {H H1 H2 : Hp} (x : Fr b H H1) (y : Fr b H1 H2) : Fr b H H2 := fun a o n h => y a o n (x a o n h)
theorem Fr.new {b p : Addr} {H H' : Hp} {o : HO} (x : Fr b H H') (n : H' p = none) : Fr b H (upd H' p o) := fun a u na h => by
  have := x a u na h
  rw [upd_ne (ne_of_none this n)]
  exact this
theorem Fr.at {b : Addr} {H H' : Hp} {o : HO} (x : Fr b H H') : Fr b H (upd H' b o) := fun a u na h => by
  rw [upd_ne na]
  exact x a u na h
theorem Fr.put {b p : Addr} {H H' : Hp} {o : HO} (x : Fr b H H') (n : H p = none) : Fr b H (upd H' p o) := fun a u na h => by
  rw [upd_ne (ne_of_none h n)]
  exact x a u na h
/-- tuples stay -/
def Tk (H H' : Hp) : Prop := ∀ a xs, H a = some (.tup xs) → H' a = some (.tup xs)
theorem Tk.refl (H : Hp) : Tk H H := fun _ _ h => h
theorem Tk.trans {H H1 H2 : Hp} (x : Tk H H1) (y : Tk H1 H2) : Tk H H2 := fun a o h => y a o (x a o h)
theorem Tk.of {H H' : Hp} (x : Same H H') : Tk H H' := fun a o h => x a _ h
theorem Tk.new {p : Addr} {H H' : Hp} {o : HO} (x : Tk H H') (n : H' p = none) : Tk H (upd H' p o) := fun a u h => by
  have := x a u h
  rw [upd_ne (ne_of_none this n)]
  exact this
theorem Tk.put {p : Addr} {H H' : Hp} {o : HO} (x : Tk H H') (n : ∀ xs, H p ≠ some (.tup xs)) : Tk H (upd H' p o) := fun a u h => by
  by_cases q : a = p
  · rw [q] at h
    exact absurd h (n u)
  · rw [upd_ne q]
    exact x a u h

/-- a bag stands at b, its numbers at L -/
structure Bg where
  b : Addr
  L : Addr
/-- the six things in a bag: c and e the last two -/
structure Bag (H : Hp) (g : Bg) (c e : Int) : Prop where
  ex : ∃ (z m i : Int) (ns : List Int),
    H g.b = some (.lst [.int z, .int m, .int i, .ref g.L, .int c, .int e]) ∧ H g.L = some (.lst (ns.map V.int)) ∧
    0 ≤ z ∧ 0 ≤ m ∧ m < 2147483647 ∧ 0 ≤ i ∧ (∀ n ∈ ns, (0 : Int) ≤ n) ∧ ns.length ≤ 63
  ne : g.L ≠ g.b
theorem Bag.ob {H : Hp} {g : Bg} {c e : Int} (B : Bag H g c e) : ∃ o, H g.b = some (.lst o) := by
  obtain ⟨z, m, i, ns, h, _⟩ := B.ex
  exact ⟨_, h⟩
theorem Bag.obL {H : Hp} {g : Bg} {c e : Int} (B : Bag H g c e) : ∃ o, H g.L = some (.lst o) := by
  obtain ⟨z, m, i, ns, h, h2, _⟩ := B.ex
  exact ⟨_, h2⟩
theorem Bag.ne_new {H : Hp} {g : Bg} {p : Addr} {c e : Int} (B : Bag H g c e) (n : H p = none) : p ≠ g.b := fun z => by
  obtain ⟨o, h⟩ := B.ob
  rw [← z, n] at h
  cases h
theorem Bag.ne_newL {H : Hp} {g : Bg} {p : Addr} {c e : Int} (B : Bag H g c e) (n : H p = none) : p ≠ g.L := fun z => by
  obtain ⟨o, h⟩ := B.obL
  rw [← z, n] at h
  cases h
theorem Bag.put {H : Hp} {g : Bg} {p : Addr} {c e : Int} {o : HO} (B : Bag H g c e) (n : p ≠ g.b) (n2 : p ≠ g.L) : Bag (upd H p o) g c e := by
  obtain ⟨z, m, i, ns, h, h2, r⟩ := B.ex
  exact ⟨⟨z, m, i, ns, by rw [upd_ne n.symm]; exact h, by rw [upd_ne n2.symm]; exact h2, r⟩, B.ne⟩
theorem Bag.new {H : Hp} {g : Bg} {p : Addr} {c e : Int} {o : HO} (B : Bag H g c e) (n : H p = none) : Bag (upd H p o) g c e := B.put (B.ne_new n) (B.ne_newL n)
theorem Bag.same {H H' : Hp} {g : Bg} {c e : Int} (B : Bag H g c e) (n : Same H H') : Bag H' g c e := by
  obtain ⟨z, m, i, ns, h, h2, r⟩ := B.ex
  exact ⟨⟨z, m, i, ns, n _ _ h, n _ _ h2, r⟩, B.ne⟩
theorem Bag.tk {H H' : Hp} {g : Bg} {c e : Int} (B : Bag H g c e) (f : Fr g.b H H') : Tk H H' := fun a xs h => f a _ (fun z => by
  obtain ⟨o, h2⟩ := B.ob
  rw [← z, h] at h2
  cases h2) h
/-- behind a draw: the bag stands, and all else -/
structure Drawn (g : Bg) (H H' : Hp) (c e : Int) : Prop where
  bag : Bag H' g c e
  fr : Fr g.b H H'
  tk : Tk H H'
section
variable {g : Bg} {a p : Addr} {H H1 H2 H' : Hp} {c e c' e' : Int} {o : HO}
theorem Drawn.trans (x : Drawn g H H1 c e) (y : Drawn g H1 H2 c' e') : Drawn g H H2 c' e' := ⟨y.bag, x.fr.trans y.fr, x.tk.trans y.tk⟩
theorem Drawn.new (x : Drawn g H H' c e) (n : H' p = none) : Drawn g H (upd H' p o) c e := ⟨x.bag.new n, x.fr.new n, x.tk.new n⟩
theorem Drawn.of (B : Bag H g c e) : Drawn g H H c e := ⟨B, .refl _ _, .refl _⟩
theorem Drawn.mk' (B : Bag H g c' e') (B' : Bag H' g c e) (f : Fr g.b H H') : Drawn g H H' c e := ⟨B', f, B.tk f⟩
theorem Drawn.same (B : Bag H g c e) (n : Same H H') : Drawn g H H' c e := ⟨B.same n, fun a o _ h => n a o h, .of n⟩
/-- a store into what H did not know -/
theorem Drawn.put (x : Drawn g H H' c e) (B : Bag H g c' e') (n : H p = none) : Drawn g H (upd H' p o) c e :=
  ⟨x.bag.put (B.ne_new n) (B.ne_newL n), x.fr.put n, x.tk.put fun xs h => by rw [n] at h; cases h⟩
theorem Drawn.keep (x : Drawn g H H' c e) (n : a ≠ g.b) (h : H a = some o) : H' a = some o := x.fr a o n h
theorem upd_some {u : HO} (h : H a = some o) (n : H p = none) : upd H p u a = some o := by
  rw [upd_ne (ne_of_none h n)]
  exact h
theorem Drawn.seqL {K : PySem.W.Frag} {xs : List V} (x : Drawn g H H' c e) (n : a ≠ g.b) (h : SqL K H a xs) : SqL K H' a xs := by
  rcases h with (h | ⟨o, h⟩) | h
  · exact .inl (.inl (x.fr _ _ n h))
  · exact .inl (.inr ⟨o, x.fr _ _ n h⟩)
  · exact .inr h
theorem Drawn.seqT {K : PySem.W.Frag} {xs : List V} (x : Drawn g H H' c e) (n : a ≠ g.b) (h : SqT K H a xs) : SqT K H' a xs := by
  rcases h with (h | ⟨o, h⟩) | h
  · exact .inl (.inl (x.fr _ _ n h))
  · exact .inl (.inr ⟨o, x.fr _ _ n h⟩)
  · exact .inr h
end
/-- an item below the length -/
theorem at_of {α : Type} {xs : List α} {r : Int} (h0 : 0 ≤ r) (h1 : r < (xs.length : Int)) : ∃ v, v ∈ xs ∧ atI xs r = some v := by
  obtain ⟨j, rfl⟩ := Int.eq_ofNat_of_zero_le h0
  have hj : j < xs.length := by omega
  exact ⟨xs[j], List.getElem_mem hj, atI_nat (j := j) (List.getElem?_eq_getElem hj)⟩

/-! ### what defs that draw promise -/
/-- a draw below n -/
def spTake : Sp := fun vs H Q _ => ∃ (g : Bg) (n c e : Int), vs = [.ref g.b, .int n] ∧ Bag H g c e ∧ 0 < n ∧ n < 1073741824 ∧
  ∀ (r : Int) (H' : Hp), 0 ≤ r → r < n → Drawn g H H' c e → Q (.int r) H'
/-- a list, a tuple, or a text is handed in, one of its items comes back -/
def spOne (K : PySem.W.Frag) : Sp := fun vs H Q _ => ∃ (g : Bg) (x : V) (c e : Int), vs = [.ref g.b, x] ∧ Bag H g c e ∧
  ((∃ p xs, x = .ref p ∧ (SqL K H p xs ∨ SqT K H p xs) ∧ p ≠ g.b ∧ 0 < xs.length ∧ xs.length < 1000 ∧ ∀ (v : V) (H' : Hp), v ∈ xs → Drawn g H H' c e → Q v H') ∨
   (∃ z : Str, x = .str z ∧ 0 < z.length ∧ z.length < 1000 ∧ ∀ (h : Nat) (H' : Hp), h ∈ z.cps.toList → Drawn g H H' c e → Q (.str ⟨#[h]⟩) H'))

/-! ### data in tuples -/
mutual
/-- what stands there, and lies in tuples alone -/
inductive Tr (H : Hp) : V → PyData → Prop
  | non : Tr H .non .none
  | bl (b : Bool) : Tr H (.bl b) (.bool b)
  | int (i : Int) : Tr H (.int i) (.int i)
  | str (x : Str) : Tr H (.str x) (.str x)
  | tup {a : Addr} {xs : List V} {ds : List PyData} : H a = some (.tup xs) → TrAll H xs ds → Tr H (.ref a) (.tuple ds)
inductive TrAll (H : Hp) : List V → List PyData → Prop
  | nil : TrAll H [] []
  | cons {v : V} {vs : List V} {d : PyData} {ds : List PyData} : Tr H v d → TrAll H vs ds → TrAll H (v :: vs) (d :: ds)
end
mutual
theorem Tr.keep {H H' : Hp} (k : Tk H H') : ∀ {v : V} {d : PyData}, Tr H v d → Tr H' v d
  | _, _, .non => .non
  | _, _, .bl b => .bl b
  | _, _, .int i => .int i
  | _, _, .str x => .str x
  | _, _, .tup h r => .tup (k _ _ h) (TrAll.keep k r)
theorem TrAll.keep {H H' : Hp} (k : Tk H H') : ∀ {v : List V} {d : List PyData}, TrAll H v d → TrAll H' v d
  | _, _, .nil => .nil
  | _, _, .cons h r => .cons (Tr.keep k h) (TrAll.keep k r)
end
mutual
theorem Tr.dp {K : PySem.W.Frag} {H : Hp} : ∀ {v : V} {d : PyData}, Tr H v d → Dp K H v d
  | _, _, .non => .non
  | _, _, .bl b => .bl b
  | _, _, .int i => .int i
  | _, _, .str x => .str x
  | _, _, .tup h r => .tup (SqT.of h) (TrAll.dp r)
theorem TrAll.dp {K : PySem.W.Frag} {H : Hp} : ∀ {v : List V} {d : List PyData}, TrAll H v d → DpAll K H v d
  | _, _, .nil => .nil
  | _, _, .cons h r => .cons (Tr.dp h) (TrAll.dp r)
end
theorem TrAll.len {H : Hp} : ∀ {v : List V} {d : List PyData}, TrAll H v d → v.length = d.length
  | _, _, .nil => rfl
  | _, _, .cons _ r => congrArg (· + 1) (TrAll.len r)
theorem TrAll.app {H : Hp} : ∀ {v u : List V} {d f : List PyData}, TrAll H v d → TrAll H u f → TrAll H (v ++ u) (d ++ f)
  | _, _, _, _, .nil, q => q
  | _, _, _, _, .cons h r, q => .cons h (TrAll.app r q)
theorem TrAll.one {H : Hp} {v : V} {d : PyData} (h : Tr H v d) : TrAll H [v] [d] := .cons h .nil
theorem TrAll.strs {H : Hp} : ∀ l : List Str, TrAll H (l.map V.str) (l.map PyData.str)
  | [] => .nil
  | x :: r => .cons (.str x) (TrAll.strs r)
theorem TrAll.get {H : Hp} : ∀ {v : List V} {d : List PyData} {i : Nat} {x : V}, TrAll H v d → v[i]? = some x → ∃ y, d[i]? = some y ∧ Tr H x y
  | _, _, _, _, .nil, h => by simp at h
  | _, _, 0, x, .cons h r, q => ⟨_, rfl, by
    have e := Option.some.inj q
    rw [← e]
    exact h⟩
  | _, _, i + 1, x, .cons h r, q => by
    rw [List.getElem?_cons_succ] at q ⊢
    exact TrAll.get r q
end Vf

set_option Elab.async false
set_option linter.all false
set_option maxRecDepth 100000
set_option maxHeartbeats 4000000
/-! Own words: dicts that the top has written, asked by ints and texts; a list extended by a tuple. -/
namespace Vf
open PySem PySem.Spec PyProof.Rows L2

/-- the entries of a written dict, by keys and values -/
def KdL (w : World) : List (Key × V) → List DictEntry → Prop
  | [], [] => True
  | (k, v) :: r, e :: q => keyIs k e.key = true ∧ e.hash = keyH w k ∧ RelV v e.val ∧ KdL w r q
  | _, _ => False
theorem KdL.keys {P : Program} {w : World} : ∀ {kvs : List (Key × V)} {l : List DictEntry}, KdL w kvs l → ∀ e ∈ l, ∃ k, (mixKind P w).is k e.key = true ∧ e.hash = (mixKind P w).hash k
  | [], [], _, e, he => by cases he
  | (k, v) :: r, e :: q, h, e', he => by
    rcases List.mem_cons.mp he with rfl | he
    · exact ⟨k, h.1, h.2.1⟩
    · exact KdL.keys h.2.2.2 e' he
  | [], _ :: _, h, _, _ => h.elim
  | _ :: _, [], h, _, _ => h.elim
theorem KdL.val {w : World} : ∀ {kvs : List (Key × V)} {l : List DictEntry}, KdL w kvs l → ∀ k, RelO (valV kvs k) ((l.find? fun e => keyIs k e.key).map (·.val))
  | [], [], _, k => True.intro
  | (k', v) :: r, e :: q, h, k => by
    have ih := KdL.val h.2.2.2 k
    unfold valV at ih ⊢
    rw [List.find?_cons, List.find?_cons]
    by_cases hk : k' = k
    · subst hk
      rw [h.1, decide_eq_true rfl]
      exact h.2.2.1
    · have h1 : keyIs k e.key = false := by
        cases hb : keyIs k e.key with
        | false => rfl
        | true =>
          have a1 := h.1
          rcases keyIs_shape a1 with ⟨i, t, e1, e2⟩ | ⟨x, t, e1, e2⟩
          · rcases keyIs_shape hb with ⟨j, u, e3, e4⟩ | ⟨y, u, e3, e4⟩
            · rw [e2] at e4
              cases e4
              exact absurd (e1.trans e3.symm) hk
            · rw [e2] at e4
              cases e4
          · rcases keyIs_shape hb with ⟨j, u, e3, e4⟩ | ⟨y, u, e3, e4⟩
            · rw [e2] at e4
              cases e4
            · rw [e2] at e4
              cases e4
              exact absurd (e1.trans e3.symm) hk
      rw [h1, decide_eq_false hk]
      exact ih
  | [], _ :: _, h, _ => h.elim
  | _ :: _, [], h, _ => h.elim
/-- a dict of the module stands at d -/
def KD (K : PySem.W.Frag) (w : World) (d : Addr) (kvs : List (Key × V)) : Prop :=
  ∃ es n, K.lookup d = some ⟨.type "dict", none, .dict es n, #[]⟩ ∧ (d == sysModules) = false ∧ KdL w kvs es.toList
theorem KD.map {P : Program} {w : World} {K : PySem.W.Frag} {d : Addr} {kvs : List (Key × V)} {h : Heap} (D : KD K w d kvs) (X : K.In h) :
    ∃ f, h.MapOf (mixKind P w) d f ∧ ∀ k, RelO (valV kvs k) (f k) := by
  obtain ⟨es, n, hl, _, hk⟩ := D
  refine ⟨_, ⟨_, es, n, X _ _ hl, ⟨rfl, rfl, rfl⟩, rfl, fun e he => hk.keys e (Array.mem_toList_iff.mpr he), fun _ => rfl⟩, fun k => ?_⟩
  have q := hk.val k
  obtain ⟨l⟩ := es
  unfold findBy
  rw [List.find?_toArray]
  exact q
/-- d[k], there -/
def rKGet (K : PySem.W.Frag) (w : World) : R2 := fun x y H Q => ∃ d kvs k v, x = .ref d ∧ y = kV k ∧ KD K w d kvs ∧ valV kvs k = some v ∧ Q v H
/-- d.get(k, z) -/
def tKGet2 (K : PySem.W.Frag) (w : World) (td ty tx : TE) : TE := fun σ H Q => td σ H fun x H1 => ty σ H1 fun y H2 => tx σ H2 fun z H3 =>
  ∃ d kvs k, x = .ref d ∧ y = kV k ∧ KD K w d kvs ∧ Q ((valV kvs k).getD z) H3
section
variable {X : Cx} {o e f : Expr} {apos cpos : Pos} {td ty tx : TE}
theorem ix_kd : IxR X (rKGet X.K X.w) := by
  intro value slice pins s σ H x y v u Q I rx ry h hs
  obtain ⟨d, kvs, k, z, rfl, rfl, D, hv, q⟩ := h
  cases rx
  obtain ⟨g, hm, hg⟩ := D.map (P := X.prog) I.kIn
  have q2 := hg k
  rw [hv] at q2
  obtain ⟨z', e1, r1⟩ := q2.some_of
  exact tail_any hm.typeIs PySem.F.slot_dict_getitem.lookup (wpAny_getItem_of (kV_is ry) hm e1 ⟨z, H, I.tok _, r1, q⟩) hs
theorem pe_kget2 (ho : PE X o td) (he : PE X e ty) (hf : PE X f tx) (hD : ∀ σ H Q, td σ H Q → td σ H (fun x H1 => (∃ d kvs, x = .ref d ∧ KD X.K X.w d kvs) ∧ Q x H1)) (m : M2 X o "get" apos e f cpos) :
    PE X (.Call (.Attribute o "get" apos) [e, f] [] cpos) (tKGet2 X.K X.w td ty tx) := by
  refine ⟨fun pins s σ H Q I h => ?_⟩
  have h' := hD _ _ _ h
  refine wpAny_Call_method m.base m.few m.line PySem.F.plainAttrs_dict PySem.F.slot_dict_get PySem.F.type_dict_get (thn (ho.run pins s σ H _ I h') ?_)
  rintro u s1 ⟨x, H1, I1, rx, ⟨d, kvs0, rfl, D⟩, q1⟩
  cases rx
  obtain ⟨g, hm, hg⟩ := D.map (P := X.prog) I1.kIn
  obtain ⟨es, n, hl, low, _⟩ := D
  refine ⟨hm.typeIs, fun b z => ?_, ?_⟩
  · cases z
    exact ⟨_, I1.kIn _ _ hl, rfl⟩
  rw [m.trees]
  refine Calls.callWith_builtin rfl (Calls.evalArgs_plain (Calls.spliced_cons (thn (he.run pins s1 σ H1 _ I1 q1) ?_)))
  rintro iv s2 ⟨y, H2, I2, ry, q2⟩
  refine Calls.spliced_cons (thn (hf.run pins s2 σ H2 _ I2 q2) ?_)
  rintro fv s3 ⟨z, H3, I3, rz, d', kvs, k, ed, ey, D3, q3⟩
  cases ed
  subst ey
  refine Calls.spliced_nil ?_
  obtain ⟨g3, hm3, hg3⟩ := D3.map (P := X.prog) I3.kIn
  refine call_meetsIn PySem.F.slot_dict_get hm3.typeIs PySem.F.entry_dict_get (PySem.F.args_dict_get_3 _ _ _) (meets_dict_get_default (mixKind X.prog X.w) d (kV_is ry) low fv) ⟨_, hm3, ?_⟩
  exact ⟨_, H3, I3.tok _, (hg3 k).getD rz, q3⟩

/-- xs.extend(t), t a tuple -/
def rExtendT (K : PySem.W.Frag) : V → List V → Hp → VK → Prop := fun x vs H Q => ∃ l b xs zs, x = .ref l ∧ vs = [.ref b] ∧ H l = some (.lst xs) ∧ SqT K H b zs ∧ xs.length + zs.length ≤ sizeLine ∧ Q .non (upd H l (.lst (xs ++ zs)))
theorem extend_tuple (l b : Addr) (its its2 : Array Value) (n n2 : Nat) (dd : Option Addr) (sl : Array (Option Value))
    (h0 : ¬(!its.isEmpty && Builtin.List.listTooLong (its.size + its2.size)) = true)
    (h1 : its.size ≤ sizeLine) (h2 : its.size + its2.size ≤ sizeLine + 1) :
    Meets (Builtin.«list.extend» ⟨[.ref l, .ref b], []⟩) (fun _ R s =>
      s.heap.get? l = some { cls := .type "list", dict := none, data := .seq its n, slots := #[] } ∧
      s.heap.get? b = some { cls := .type "tuple", dict := dd, data := .seq its2 n2, slots := sl } ∧
      R (.ok (.ret Value.none)) { s with heap := s.heap.update l (Obj.mapSeq fun x => x ++ its2), toks := s.toks }) :=
  .of_wp fun prog w A R s h => by
    obtain ⟨hp, g, d, tk, os⟩ := s
    obtain ⟨hl, hb, h⟩ := h
    have f1 := AutoSeq1.idx_int
    have f2 := AutoSeq1.sub_tuple_tuple
    have f3 := AutoSeq1.sub_list_list
    have f4 := AutoSeq1.sub_tuple_list
    have f5 := AutoSeq1.sub_list_tuple
    have hz' : (its ++ its2).size ≤ sizeLine + 1 := by
      rw [Array.size_append]
      exact h2
    wp_walk using (wpAny_updateSeq hl rfl (hz := h1) (_hz' := hz')), AutoSeq1.wpAny_loadPart' hl, AutoSeq1.wpAny_loadPart' hb
    exact ⟨_, rfl, h⟩
theorem mt_extendT : MtM X "list.extend" (rExtendT X.K) := by
  intro pins s σ H x vs v us Q I rx rv h
  obtain ⟨l, b, xs, zs, rfl, rfl, hH, hB, hz, q⟩ := h
  cases rx
  obtain ⟨u, rfl, ru⟩ := rv.one
  cases ru
  obtain ⟨z, its, n, r, hl, e⟩ := I.lstM hH
  obtain ⟨its2, r2, ⟨⟨cls, dd, dat, sl⟩, ho, hc, n2, hd⟩, hz2⟩ := I.tuple hB
  simp only at hc hd
  subst hc hd
  have hl2 := r2.length
  have hsz : its.toArray.size + its2.toArray.size ≤ sizeLine := by
    rw [List.size_toArray, List.size_toArray]
    omega
  have hlong : ¬ (!its.toArray.isEmpty && Builtin.List.listTooLong (its.toArray.size + its2.toArray.size)) = true := by
    rw [notLongL hsz, Bool.and_false]
    exact Bool.false_ne_true
  refine call_meets PySem.F.slot_list_extend ⟨_, e, rfl⟩ PySem.F.entry_list_extend (PySem.F.args_list_extend_2 _ _)
    (extend_tuple l b its.toArray its2.toArray n n2 dd sl hlong (by rw [List.size_toArray]; omega) (by omega)) ⟨e, ho, ?_⟩
  refine ⟨.non, _, I.lset (its' := its ++ its2) hH e (by simp) (r.append r2) ?_, rfl, q⟩
  rw [List.length_append]
  omega
end
end Vf

set_option Elab.async false
set_option linter.all false
set_option maxRecDepth 100000
set_option maxHeartbeats 4000000
/-! Own words: data that are shown alike. -/
namespace Vf
open PySem PySem.Spec PyProof.Rows L2
mutual
/-- data without dicts, whose ints and texts may be shown -/
def tame : PyData → Bool
  | .none => true
  | .bool _ => true
  | .int i => decide (i.natAbs < 10 ^ 30)
  | .str x => x.cps.all (· < 0x110000)
  | .list xs => tameAll xs
  | .tuple xs => tameAll xs
  | .dict _ => false
def tameAll : List PyData → Bool
  | [] => true
  | x :: r => tame x && tameAll r
end
mutual
/-- no less than the length of what is shown -/
def wt : PyData → Nat
  | .none => 4
  | .bool _ => 5
  | .int _ => 32
  | .str x => 10 * x.length + 2
  | .list xs => wtAll xs + 4
  | .tuple xs => wtAll xs + 4
  | .dict _ => 0
def wtAll : List PyData → Nat
  | [] => 0
  | x :: r => wt x + 2 + wtAll r
end
theorem listText_le (ts : List Str) : (listText ts).length ≤ piled ts + 2 := by
  have e1 : (("[" : Str)).length = 1 := rfl
  have e2 : (("]" : Str)).length = 1 := rfl
  unfold listText
  rw [Str.length_append]
  have e2' : (("]" : String) : Str).length = 1 := rfl
  cases ts with
  | nil =>
    show (("[" : Str)).length + _ ≤ _
    rw [e1, piled_nil]
    exact Nat.le_refl _
  | cons t r =>
    show (textFrom (0 + 1) (("[" : Str) ++ _ ++ t) r).length + _ ≤ _
    rw [textFrom_length_pos r 1 _ (by decide), piled_cons, Str.length_append, Str.length_append, e1]
    have e3 : (Str.ofString (if 0 > 0 then ", " else "" : String)).length = 0 := rfl
    rw [e3, e2']
    omega
theorem tupleText_le (ts : List Str) : (tupleText ts).length ≤ piled ts + 3 := by
  unfold tupleText
  rw [Str.length_append, Str.length_append]
  have e1 : (("(" : Str)).length = 1 := rfl
  have e2 : (Str.ofString (if ts.length == 1 then ",)" else ")" : String)).length ≤ 2 := by
    split
    · exact Nat.le_refl _
    · exact Nat.le_succ 1
  have e3 : (Str.join ", " ts).length ≤ piled ts := by
    by_cases h : ts = []
    · subst h
      exact Nat.le_refl _
    · have := join_length_add ts h
      omega
  rw [e1]
  omega
theorem ofs_len (i : Int) (h : i.natAbs < 10 ^ 30) : (Str.ofString (toString i)).length ≤ 30 + 1 := by
  have e : (Str.ofString (toString i)).length = (toString i).length := PySem.ofString_length _
  rw [e]
  exact int_text_length_le10 (by decide) h
mutual
theorem shown_le : ∀ d : PyData, tame d = true → d.shown.length ≤ wt d
  | .none, _ => Nat.le_refl _
  | .bool b, _ => by
    cases b
    · exact Nat.le_refl _
    · exact Nat.le_succ 4
  | .int i, h => by
    have h' : i.natAbs < 10 ^ 30 := of_decide_eq_true h
    exact Nat.le_trans (ofs_len i h') (by show 30 + 1 ≤ 32; decide)
  | .str x, h => by
    refine Nat.le_trans (StrLaws.reprText_len x ?_) (Nat.le_refl _)
    intro c hc
    have h' : x.cps.all (· < 0x110000) = true := h
    rw [← Array.all_toList, List.all_eq_true] at h'
    have := of_decide_eq_true (h' c hc)
    omega
  | .list xs, h => by
    have := shownAll_le xs h
    have := listText_le (PyData.shownAll xs)
    show (listText (PyData.shownAll xs)).length ≤ wtAll xs + 4
    omega
  | .tuple xs, h => by
    have := shownAll_le xs h
    have := tupleText_le (PyData.shownAll xs)
    show (tupleText (PyData.shownAll xs)).length ≤ wtAll xs + 4
    omega
  | .dict _, h => by cases h
theorem shownAll_le : ∀ xs : List PyData, tameAll xs = true → piled (PyData.shownAll xs) ≤ wtAll xs
  | [], _ => Nat.le_refl _
  | x :: r, h => by
    have h' : (tame x && tameAll r) = true := h
    rw [Bool.and_eq_true] at h'
    have := shown_le x h'.1
    have := shownAll_le r h'.2
    show piled (x.shown :: PyData.shownAll r) ≤ wt x + 2 + wtAll r
    rw [piled_cons]
    omega
end
mutual
theorem tame_ok : ∀ d : PyData, tame d = true → d.showable = true ∧ d.hasDict = false ∧ d.canLay0 = true
  | .none, _ => ⟨rfl, rfl, rfl⟩
  | .bool b, _ => ⟨rfl, rfl, rfl⟩
  | .int i, h => by
    have h' : i.natAbs < 10 ^ 30 := of_decide_eq_true h
    refine ⟨?_, rfl, rfl⟩
    show decide (i.natAbs.log2 < 1920) = true
    refine decide_eq_true ?_
    by_cases h0 : i.natAbs = 0
    · rw [h0]
      decide
    · exact (Nat.log2_lt h0).mpr (Nat.lt_trans h' (by decide +kernel))
  | .str x, h => ⟨rfl, rfl, h⟩
  | .list xs, h => tameAll_ok xs h
  | .tuple xs, h => tameAll_ok xs h
  | .dict _, h => by cases h
theorem tameAll_ok : ∀ xs : List PyData, tameAll xs = true → PyData.showableAll xs = true ∧ PyData.hasDictAll xs = false ∧ PyData.canLayAll0 xs = true
  | [], _ => ⟨rfl, rfl, rfl⟩
  | x :: r, h => by
    have h' : (tame x && tameAll r) = true := h
    rw [Bool.and_eq_true] at h'
    obtain ⟨a1, a2, a3⟩ := tame_ok x h'.1
    obtain ⟨b1, b2, b3⟩ := tameAll_ok r h'.2
    refine ⟨?_, ?_, ?_⟩
    · show (PyData.showable x && PyData.showableAll r) = true
      rw [a1, b1] <;> rfl
    · show (PyData.hasDict x || PyData.hasDictAll r) = false
      rw [a2, b2] <;> rfl
    · show (PyData.canLay0 x && PyData.canLayAll0 r) = true
      rw [a3, b3] <;> rfl
end
/-- data of a size that may be shown -/
structure OkD (d : PyData) : Prop where
  tm : tame d = true
  dp : d.depth ≤ 60
  sz : wt d ≤ 16000000
theorem OkD.shaped {d : PyData} (h : OkD d) : SeqAt.shaped d = true := by
  unfold SeqAt.shaped
  rw [Bool.and_eq_true]
  exact ⟨(tame_ok d h.tm).2.2, decide_eq_true (Nat.le_trans h.dp (by decide))⟩
theorem OkD.show {d : PyData} (h : OkD d) : d.shown.length ≤ sizeLine := Nat.le_trans (shown_le d h.tm) (Nat.le_trans h.sz (by decide))
theorem OkD.refl {d : PyData} (h : OkD d) : PyData.eqv d d = true := SeqAt.eqv_refl d (tame_ok d h.tm).2.2
/-- repr of a list or a tuple, of a truth, of an int -/
theorem call_repr {X : Cx} (gd : X.A.guards = some []) (hu : X.A.units + 64 < cLine) :
    CallR X (.builtin "repr") (fun xs H Q => ∃ a d, xs = [.ref a] ∧ Dp X.K H (.ref a) d ∧ OkD d ∧ Q (.str d.shown) H) := by
  intro pins s σ H xs us Q I r h
  obtain ⟨a, d, rfl, hd, ok, q⟩ := h
  obtain ⟨h1, h2, h3⟩ := tame_ok d ok.tm
  exact call_reprD gd hu pins s σ H [.ref a] us Q I r ⟨a, d, rfl, hd, h1, h2, ok.dp, ok.show, q⟩
def rListOf (K : PySem.W.Frag) : List V → Hp → VK → Prop := fun xs H Q => ∃ p ys, xs = [.ref p] ∧ (SqL K H p ys ∨ SqT K H p ys) ∧ ∀ l, H l = none → Q (.ref l) (upd H l (.lst ys))
def rLenK (K : PySem.W.Frag) : List V → Hp → VK → Prop := fun xs H Q => ∃ x n, xs = [x] ∧ LenV K x H n ∧ Q (.int n) H
def rTupOf (K : PySem.W.Frag) : List V → Hp → VK → Prop := fun xs H Q => ∃ p ys, xs = [.ref p] ∧ ((SqL K H p ys ∧ ∀ l, H l = none → Q (.ref l) (upd H l (.tup ys))) ∨ (SqT K H p ys ∧ Q (.ref p) H))
/-- two things alike -/
def spAlike (K : PySem.W.Frag) : Sp := fun vs H Q _ => ∃ (a b : Addr) (d : PyData), vs = [.ref a, .ref b] ∧ Dp K H (.ref a) d ∧ Dp K H (.ref b) d ∧ OkD d ∧ ∀ H', Same H H' → Q (.bl true) H'
theorem same_new {H : Hp} {p : Addr} {o : HO} (h : H p = none) : Same H (upd H p o) := fun b u e => by
  rw [upd_ne (ne_of_none e h)]
  exact e
theorem Tr.new {H : Hp} {v : V} {d : PyData} {p : Addr} {o : HO} (t : Tr H v d) (h : H p = none) : Tr (upd H p o) v d := t.keep ((Tk.refl H).new h)
theorem TrAll.new {H : Hp} {v : List V} {d : List PyData} {p : Addr} {o : HO} (t : TrAll H v d) (h : H p = none) : TrAll (upd H p o) v d := t.keep ((Tk.refl H).new h)
theorem same_put {H H' : Hp} {p : Addr} {o : HO} (s : Same H H') (h : H p = none) : Same H (upd H' p o) := fun b u e => by
  rw [upd_ne (ne_of_none e h)]
  exact s b u e
end Vf

set_option Elab.async false
set_option linter.all false
set_option maxRecDepth 100000
set_option maxHeartbeats 4000000
namespace Lw
open PySem PySem.Spec PyProof.Rows L2 Vf
open C8 (Cal pe_c pe_gc CalAt)
def topS (i : Nat) : Stmt := PySem.Challenge.pw_leastlaid_k08_levels_and_needed_brackets.main.body.getD i (.Pass ⟨0, 0, 0, 0⟩)
abbrev s_p_level_of : Stmt := topS 5
theorem sc_p_level_of : FnScope ["expression"] ["expression"] (defScope s_p_level_of) := ⟨rfl, rfl, rfl, by decide +kernel, rfl, by decide +kernel, by decide +kernel⟩
abbrev s_p_operands : Stmt := topS 6
theorem sc_p_operands : FnScope ["expression"] ["expression"] (defScope s_p_operands) := ⟨rfl, rfl, rfl, by decide +kernel, rfl, by decide +kernel, by decide +kernel⟩
abbrev s_p_least_level : Stmt := topS 7
theorem sc_p_least_level : FnScope ["expression", "side", "level"] ["expression", "side"] (defScope s_p_least_level) := ⟨rfl, rfl, rfl, by decide +kernel, rfl, by decide +kernel, by decide +kernel⟩
abbrev s_p_operand_at : Stmt := topS 8
theorem sc_p_operand_at : FnScope ["expression", "side", "place", "operand"] ["expression", "side"] (defScope s_p_operand_at) := ⟨rfl, rfl, rfl, by decide +kernel, rfl, by decide +kernel, by decide +kernel⟩
abbrev s_p_wants_brackets : Stmt := topS 9
theorem sc_p_wants_brackets : FnScope ["expression", "side"] ["expression", "side"] (defScope s_p_wants_brackets) := ⟨rfl, rfl, rfl, by decide +kernel, rfl, by decide +kernel, by decide +kernel⟩
abbrev s_p_ends_in_fn : Stmt := topS 10
theorem sc_p_ends_in_fn : FnScope ["expression", "tree", "side"] ["expression"] (defScope s_p_ends_in_fn) := ⟨rfl, rfl, rfl, by decide +kernel, rfl, by decide +kernel, by decide +kernel⟩
abbrev s_l_bag : Stmt := topS 12
theorem sc_l_bag : FnScope ["_law_script", "_law_cell"] ["_law_script"] (defScope s_l_bag) := ⟨rfl, rfl, rfl, by decide +kernel, rfl, by decide +kernel, by decide +kernel⟩
abbrev s_l_take : Stmt := topS 13
theorem sc_l_take : FnScope ["_law_bag_here", "_law_many", "_law_cell", "_law_stirred", "_law_value", "_law_begin", "_law_second"] ["_law_bag_here", "_law_many"] (defScope s_l_take) := ⟨rfl, rfl, rfl, by decide +kernel, rfl, by decide +kernel, by decide +kernel⟩
abbrev s_l_one : Stmt := topS 14
theorem sc_l_one : FnScope ["_law_bag_here", "_law_things"] ["_law_bag_here", "_law_things"] (defScope s_l_one) := ⟨rfl, rfl, rfl, by decide +kernel, rfl, by decide +kernel, by decide +kernel⟩
abbrev s_l_keywords : Stmt := topS 15
theorem sc_l_keywords : FnScope [] [] (defScope s_l_keywords) := ⟨rfl, rfl, rfl, by decide +kernel, rfl, by decide +kernel, by decide +kernel⟩
abbrev s_l_name : Stmt := topS 16
theorem sc_l_name : FnScope ["_law_bag_here", "_law_letters", "_law_word", "_law_turn"] ["_law_bag_here"] (defScope s_l_name) := ⟨rfl, rfl, rfl, by decide +kernel, rfl, by decide +kernel, by decide +kernel⟩
abbrev s_l_atom : Stmt := topS 17
theorem sc_l_atom : FnScope ["_law_bag_here", "_law_way", "_law_quotes"] ["_law_bag_here"] (defScope s_l_atom) := ⟨rfl, rfl, rfl, by decide +kernel, rfl, by decide +kernel, by decide +kernel⟩
abbrev s_l_names : Stmt := topS 18
theorem sc_l_names : FnScope ["_law_bag_here", "_law_turn"] ["_law_bag_here"] (defScope s_l_names) := ⟨rfl, rfl, rfl, by decide +kernel, rfl, by decide +kernel, by decide +kernel⟩
abbrev s_l_part : Stmt := topS 19
theorem sc_l_part : FnScope ["_law_bag_here", "_law_deep", "_law_way", "_law_signs", "_law_inner", "_law_some", "_law_turn", "_law_key"] ["_law_bag_here", "_law_deep"] (defScope s_l_part) := ⟨rfl, rfl, rfl, by decide +kernel, rfl, by decide +kernel, by decide +kernel⟩
abbrev s_l_expression : Stmt := topS 20
theorem sc_l_expression : FnScope ["_law_bag_here", "_law_deep"] ["_law_bag_here", "_law_deep"] (defScope s_l_expression) := ⟨rfl, rfl, rfl, by decide +kernel, rfl, by decide +kernel, by decide +kernel⟩
abbrev s_l_flat : Stmt := topS 21
theorem sc_l_flat : FnScope ["_law_rows", "_law_found", "_law_row"] ["_law_rows"] (defScope s_l_flat) := ⟨rfl, rfl, rfl, by decide +kernel, rfl, by decide +kernel, by decide +kernel⟩
abbrev s_l_expressions_in : Stmt := topS 22
theorem sc_l_expressions_in : FnScope ["_law_tree", "_law_found", "_law_line", "_law_one_here", "_law_pair"] ["_law_tree"] (defScope s_l_expressions_in) := ⟨rfl, rfl, rfl, by decide +kernel, rfl, by decide +kernel, by decide +kernel⟩
abbrev s_l_operands : Stmt := topS 23
theorem sc_l_operands : FnScope ["_law_tree"] ["_law_tree"] (defScope s_l_operands) := ⟨rfl, rfl, rfl, by decide +kernel, rfl, by decide +kernel, by decide +kernel⟩
abbrev s_l_sign_level : Stmt := topS 24
theorem sc_l_sign_level : FnScope ["_law_sign", "_law_rows", "_law_at", "_law_row"] ["_law_sign"] (defScope s_l_sign_level) := ⟨rfl, rfl, rfl, by decide +kernel, rfl, by decide +kernel, by decide +kernel⟩
abbrev s_l_sides : Stmt := topS 25
theorem sc_l_sides : FnScope ["_law_sign", "_law_level_here"] ["_law_sign"] (defScope s_l_sides) := ⟨rfl, rfl, rfl, by decide +kernel, rfl, by decide +kernel, by decide +kernel⟩
abbrev s_l_level : Stmt := topS 26
theorem sc_l_level : FnScope ["_law_tree"] ["_law_tree"] (defScope s_l_level) := ⟨rfl, rfl, rfl, by decide +kernel, rfl, by decide +kernel, by decide +kernel⟩
abbrev s_l_wants : Stmt := topS 27
theorem sc_l_wants : FnScope ["_law_tree", "_law_side", "_law_operand", "_law_least"] ["_law_tree", "_law_side", "_law_operand"] (defScope s_l_wants) := ⟨rfl, rfl, rfl, by decide +kernel, rfl, by decide +kernel, by decide +kernel⟩
abbrev s_l_alike : Stmt := topS 28
theorem sc_l_alike : FnScope ["_law_found", "_law_due"] ["_law_found", "_law_due"] (defScope s_l_alike) := ⟨rfl, rfl, rfl, by decide +kernel, rfl, by decide +kernel, by decide +kernel⟩
abbrev s_l_has_fn_end : Stmt := topS 29
theorem sc_l_has_fn_end : FnScope ["_law_tree"] ["_law_tree"] (defScope s_l_has_fn_end) := ⟨rfl, rfl, rfl, by decide +kernel, rfl, by decide +kernel, by decide +kernel⟩
abbrev s_p_law : Stmt := topS 30
theorem sc_p_law : FnScope ["_law_script", "_law_bag_here", "_law_turn", "_law_tree", "_law_one_here", "_law_due", "_law_told", "_law_wants_here", "_law_side", "_law_operand"] ["_law_script"] (defScope s_p_law) := ⟨rfl, rfl, rfl, by decide +kernel, rfl, by decide +kernel, by decide +kernel⟩
def kd_OPERATORS : List (Key × V) := [(.inr "or", .int 1), (.inr "and", .int 2), (.inr "==", .int 4), (.inr "!=", .int 4), (.inr "<", .int 4), (.inr "<=", .int 4), (.inr ">", .int 4), (.inr ">=", .int 4), (.inr "+", .int 5), (.inr "-", .int 5), (.inr "*", .int 6), (.inr "/", .int 6), (.inr "^", .int 8)]
def kd_LEVELS : List (Key × V) := [(.inr "not", .int 3), (.inr "minus", .int 7), (.inr "call", .int 9), (.inr "index", .int 9), (.inr "field", .int 9)]
def kd_LEAST_LEFT : List (Key × V) := [(.inl 1, .int 1), (.inl 2, .int 2), (.inl 4, .int 5), (.inl 5, .int 5), (.inl 6, .int 6), (.inl 8, .int 9)]
def kd_LEAST_RIGHT : List (Key × V) := [(.inl 1, .int 2), (.inl 2, .int 3), (.inl 4, .int 5), (.inl 5, .int 6), (.inl 6, .int 7), (.inl 8, .int 7)]
structure Txt (K : PySem.W.Frag) (mg : Str → Option Value) (w : World) : Prop where
  d_p_level_of : DefIn K mg "level_of" s_p_level_of ["expression"]
  d_p_operands : DefIn K mg "operands" s_p_operands ["expression"]
  d_p_least_level : DefIn K mg "_least_level" s_p_least_level ["expression", "side"]
  d_p_operand_at : DefIn K mg "operand_at" s_p_operand_at ["expression", "side"]
  d_p_wants_brackets : DefIn K mg "wants_brackets" s_p_wants_brackets ["expression", "side"]
  d_p_ends_in_fn : DefIn K mg "ends_in_fn" s_p_ends_in_fn ["expression"]
  d_l_bag : DefIn K mg "_law_bag" s_l_bag ["_law_script"]
  d_l_take : DefIn K mg "_law_take" s_l_take ["_law_bag_here", "_law_many"]
  d_l_one : DefIn K mg "_law_one" s_l_one ["_law_bag_here", "_law_things"]
  d_l_keywords : DefIn K mg "_law_keywords" s_l_keywords []
  d_l_name : DefIn K mg "_law_name" s_l_name ["_law_bag_here"]
  d_l_atom : DefIn K mg "_law_atom" s_l_atom ["_law_bag_here"]
  d_l_names : DefIn K mg "_law_names" s_l_names ["_law_bag_here"]
  d_l_part : DefIn K mg "_law_part" s_l_part ["_law_bag_here", "_law_deep"]
  d_l_expression : DefIn K mg "_law_expression" s_l_expression ["_law_bag_here", "_law_deep"]
  d_l_flat : DefIn K mg "_law_flat" s_l_flat ["_law_rows"]
  d_l_expressions_in : DefIn K mg "_law_expressions_in" s_l_expressions_in ["_law_tree"]
  d_l_operands : DefIn K mg "_law_operands" s_l_operands ["_law_tree"]
  d_l_sign_level : DefIn K mg "_law_sign_level" s_l_sign_level ["_law_sign"]
  d_l_sides : DefIn K mg "_law_sides" s_l_sides ["_law_sign"]
  d_l_level : DefIn K mg "_law_level" s_l_level ["_law_tree"]
  d_l_wants : DefIn K mg "_law_wants" s_l_wants ["_law_tree", "_law_side", "_law_operand"]
  d_l_alike : DefIn K mg "_law_alike" s_l_alike ["_law_found", "_law_due"]
  d_l_has_fn_end : DefIn K mg "_law_has_fn_end" s_l_has_fn_end ["_law_tree"]
  d_p_law : DefIn K mg "law" s_p_law ["_law_script"]
  n_abs : mg "abs" = none
  n_int : mg "int" = none
  n_len : mg "len" = none
  n_range : mg "range" = none
  n_tuple : mg "tuple" = none
  n_list : mg "list" = none
  n_enumerate : mg "enumerate" = none
  n_repr : mg "repr" = none
  k_OPERATORS : ∃ d, mg "OPERATORS" = some (.ref d) ∧ KD K w d kd_OPERATORS
  k_LEVELS : ∃ d, mg "LEVELS" = some (.ref d) ∧ KD K w d kd_LEVELS
  k_LEAST_LEFT : ∃ d, mg "LEAST_LEFT" = some (.ref d) ∧ KD K w d kd_LEAST_LEFT
  k_LEAST_RIGHT : ∃ d, mg "LEAST_RIGHT" = some (.ref d) ∧ KD K w d kd_LEAST_RIGHT
section
variable {P : Program} {w : World} {K : PySem.W.Frag} {mg : Str → Option Value} {base : Heap}

/-! the side of an operation; one step of a reading -/
local macro_rules | `(tactic| walk_at "side") => `(tactic| first
  | (show CMul _ _; first | exact Or.inr (by decide) | exact Or.inl (by decide) | (refine Or.inl ⟨?_, ?_⟩ <;> omega) | (refine Or.inr ⟨?_, ?_⟩ <;> omega))
  | (show CDivN _ _; refine ⟨?_, ?_⟩ <;> omega)
  | (show CPow _ _; exact ⟨by decide, by decide, by decide⟩)
  | (show (0 : Int) < _; first | decide | assumption | omega))
local macro_rules | `(tactic| walk_at "rd1") => `(tactic| first
  | refine ⟨_, _, rfl, rfl, (by walk_at "side"), ?_⟩
  | refine ⟨_, rfl, ?_⟩
  | refine ⟨_, _, rfl, rfl, ?_⟩
  | refine ⟨rfl, ?_⟩
  | refine .inl ⟨_, rfl, ?_⟩
  | refine ⟨_, _, _, _, rfl, rfl, SqL.of (by first | assumption | exact upd_same), atI_nat (j := _) rfl, ?_⟩
  | refine ⟨_, _, _, _, rfl, rfl, (by first | assumption | exact upd_same), rfl, ?_⟩)
local macro_rules | `(tactic| walk_at "rd") => `(tactic| repeat (walk_at "rd1"))

theorem cut_head (ns : List Int) (nn : ∀ n ∈ ns, (0 : Int) ≤ n) (i : Option Int) : ∃ x : Int, 0 ≤ x ∧ (cutV (ns.map V.int) i none ++ [V.int 0])[0]? = some (.int x) := by
  have hm : ∀ v ∈ cutV (ns.map V.int) i none, ∃ x : Int, 0 ≤ x ∧ v = .int x := fun v hv => by
    have h1 : v ∈ ns.map V.int := List.mem_of_mem_drop (List.mem_of_mem_take hv)
    obtain ⟨x, hx, rfl⟩ := List.mem_map.mp h1
    exact ⟨x, nn x hx, rfl⟩
  cases e : cutV (ns.map V.int) i none with
  | nil => exact ⟨0, by decide, rfl⟩
  | cons v r =>
    obtain ⟨x, h0, rfl⟩ := hm v (by rw [e]; exact List.mem_cons_self ..)
    exact ⟨x, h0, rfl⟩
theorem cut_size (ns : List Int) (nl : ns.length ≤ 63) (i : Option Int) : (cutV (ns.map V.int) i none).length + [V.int 0].length ≤ sizeLine := by
  have h := cutV_length (ns.map V.int) i none
  rw [List.length_map] at h
  exact Nat.le_trans (Nat.add_le_add_right (Nat.le_trans h nl) 1) (by decide)
theorem c_l_take (T : Txt K mg w) : Cal P w K mg base 1 "_law_take" spTake [] := by
  refine calOf T.d_l_take sc_l_take (fun vs H Q E h => ?_) (fun f cdv A outer s H vs Q E hr h => ?_)
  · obtain ⟨g, n, c, e, rfl, _⟩ := h
    rfl
  · obtain ⟨g, n, c, e, rfl, B, n0, n1, k⟩ := h
    have hLb := B.ne
    obtain ⟨z, m, i, ns, hb, hL, z0, m0, m1, i0, nn, nl⟩ := B.ex
    refine ⟨_,
      (Evl.pss_cut (ps_if (pt_cmpR op_eq (pe_ix ix_list (pv 0) pe_int (fun _ _ => rfl)) pe_int (nomark _))
        (pss_cons (ps_set (i := 2) sc_l_take.nd rfl (Or.inl rfl) (pe_ix ix_list (pe_op op_cat (pe_slice sl_list (pe_ix ix_list (pv 0) pe_int (fun _ _ => rfl)) (po_some (pe_ix ix_list (pv 0) pe_int (fun _ _ => rfl))) po_none) (pe_lst (pa_cons pe_int pa_nil))) pe_int (fun _ _ => rfl)))
        (pss_cons (ps_augS (pv 0) pe_int get_list pe_int ip_add set_list)
        (pss_cons (ps_if (pt_cmpR op_ge (pv 2) (pe_op op_pow pe_int pe_int) (nomark _))
        (pss_one (ps_asg (pv 2) (pg_sub (pv 0) pe_int set_list)))
        pss_nil)
        (pss_cons (ps_set (i := 3) sc_l_take.nd rfl (Or.inl rfl) (pe_op op_add (pe_op op_add (pe_op op_mul (pe_ix ix_list (pv 0) pe_int (fun _ _ => rfl)) pe_int) (pe_op op_mod (pe_callTy call_int1 (by rfl) T.n_int (by decide +kernel) (pa_cons (pv 2) pa_nil)) pe_int)) (pe_op op_mul pe_int (pe_ix ix_list (pv 0) pe_int (fun _ _ => rfl)))))
        (pss_one (ps_asg (pe_op op_mod (pe_callTy call_int1 (by rfl) T.n_int (by decide +kernel) (pa_cons (pv 3) pa_nil)) pe_int) (pg_sub (pv 0) pe_int set_list)))))))
        pss_nil)
        (pss_cons (ps_if (pt_cmpR op_gt (pe_ix ix_list (pv 0) pe_int (fun _ _ => rfl)) pe_int (nomark _))
        (pss_cons (ps_set (i := 4) sc_l_take.nd rfl (Or.inl rfl) (pe_op op_mod (pe_callTy call_int1 (by rfl) T.n_int (by decide +kernel) (pa_cons (pe_ix ix_list (pv 0) pe_int (fun _ _ => rfl)) pa_nil)) (pv 1)))
        (pss_cons (ps_asg (pe_op op_fdivN (pe_callTy call_int1 (by rfl) T.n_int (by decide +kernel) (pa_cons (pe_ix ix_list (pv 0) pe_int (fun _ _ => rfl)) pa_nil)) (pv 1)) (pg_sub (pv 0) pe_int set_list))
        (pss_one (ps_ret (pv 4)))))
        pss_nil)
        (pss_cons (ps_set (i := 5) sc_l_take.nd rfl (Or.inl rfl) (pe_op op_mod (pe_callTy call_int1 (by rfl) T.n_int (by decide +kernel) (pa_cons (pe_op op_mul (pe_op op_add (pe_ix ix_list (pv 0) pe_int (fun _ _ => rfl)) pe_int) pe_int) pa_nil)) pe_int))
        (pss_cons (ps_set (i := 6) sc_l_take.nd rfl (Or.inl rfl) (pe_op op_mod (pe_callTy call_int1 (by rfl) T.n_int (by decide +kernel) (pa_cons (pe_op op_mul (pe_op op_mod (pe_callTy call_int1 (by rfl) T.n_int (by decide +kernel) (pa_cons (pe_op op_mul (pv 5) (pv 5)) pa_nil)) pe_int) pe_int) pa_nil)) pe_int))
        (pss_one (ps_ret (pe_op op_mod (pe_callTy call_int1 (by rfl) T.n_int (by decide +kernel) (pa_cons (pe_op op_fdivN (pv 6) pe_int) pa_nil)) (pv 1))))))))
      , ?_⟩
    refine ⟨fun σ' H' => ∃ (z1 m1 i1 : Int) (v2 v3 : Option V), σ' = [some (.ref g.b), some (.int n), v2, v3, none, none, none] ∧ Fr g.b H H' ∧
        H' g.b = some (.lst [.int z1, .int m1, .int i1, .ref g.L, .int c, .int e]) ∧ 0 ≤ z1 ∧ 0 ≤ m1 ∧ m1 < 2147483647 ∧ 0 ≤ i1, ?_, ?_⟩
    · walk_at "rd"
      refine ite2 (fun h1 => ?_) (fun h1 => ?_)
      · walk_at "rd"
        refine ⟨_, _, rfl, SqL.of hL, fun p hp => ⟨(by decide), fun q hq => ⟨_, _, _, _, rfl, rfl, upd_some upd_same hq, upd_same, cut_size ns nl _, fun r hr => ?_⟩⟩⟩
        obtain ⟨x, x0, hx⟩ := cut_head ns nn (some i)
        refine ⟨_, _, _, _, rfl, rfl, SqL.of upd_same, atI_nat (j := 0) hx, ?_⟩
        have hb3 := upd_some (u := .lst (cutV (ns.map V.int) (some i) none ++ [.int 0])) (upd_some (u := .lst [.int 0]) (upd_some (u := .lst (cutV (ns.map V.int) (some i) none)) hb hp) hq) hr
        have fr3 : Fr g.b H _ := (((Fr.refl g.b H).new (o := .lst (cutV (ns.map V.int) (some i) none)) hp).new (o := .lst [.int 0]) hq).new (o := .lst (cutV (ns.map V.int) (some i) none ++ [.int 0])) hr
        generalize upd (upd (upd H p _) q _) r _ = H3 at hb3 fr3 ⊢
        -- bag[2] += 1
        walk_at "rd"
        have fr4 : ∀ o1 o2 : HO, Fr g.b H (upd (upd H3 g.b o1) g.b o2) := fun o1 o2 => fr3.at.at
        have md : ∀ y : Int, 0 ≤ y % 2147483647 ∧ y % 2147483647 < 2147483647 := fun y => ⟨Int.emod_nonneg _ (by decide), Int.emod_lt_of_pos _ (by decide)⟩
        refine ite2 (fun h2 => ?_) (fun h2 => ?_)
        · walk_at "rd"
          exact ⟨x, _, i + 1, _, _, rfl, fr3.at.at.at, upd_same, x0, (md _).1, (md _).2, by omega⟩
        · walk_at "rd"
          exact ⟨z, _, i + 1, _, _, rfl, fr3.at.at, upd_same, z0, (md _).1, (md _).2, by omega⟩
      · exact ⟨z, m, i, none, none, rfl, .refl _ _, hb, z0, m0, m1, i0⟩
    · rintro σ' H' ⟨z1, m1, i1, v2, v3, rfl, fr, hb1, z0, m0, mL, i0⟩
      have hn : ∀ y : Int, 0 ≤ y % n ∧ y % n < n := fun y => ⟨Int.emod_nonneg _ (by omega), Int.emod_lt_of_pos _ n0⟩
      walk_at "rd"
      refine ite2 (fun h1 => ?_) (fun h1 => ?_)
      · walk_at "rd"
        refine k _ _ (hn _).1 (hn _).2 (Drawn.mk' B ⟨⟨_, m1, i1, ns, upd_same, by rw [upd_ne hLb]; exact fr _ _ hLb hL, Int.fdiv_nonneg z0 (Int.le_of_lt n0), m0, mL, i0, nn, nl⟩, hLb⟩ fr.at)
      · walk_at "rd"
        exact k _ _ (hn _).1 (hn _).2 (Drawn.mk' B ⟨⟨z1, m1, i1, ns, hb1, fr _ _ hLb hL, z0, m0, mL, i0, nn, nl⟩, hLb⟩ fr)

theorem c_l_one (T : Txt K mg w) (c_l_take : Cal P w K mg base 1 "_law_take" spTake []) : Cal P w K mg base 2 "_law_one" (spOne K) [] := by
  refine calOf T.d_l_one sc_l_one (fun vs H Q E h => ?_) (fun f cdv A outer s H vs Q E hr h => ?_)
  · obtain ⟨g, x, c, e, rfl, _⟩ := h
    rfl
  · obtain ⟨g, x, c, e, rfl, B, h⟩ := h
    refine ⟨_,
      (pss_one (ps_ret (pe_ix ix_seq (pv 1) (pe_c c_l_take hr (by first | decide | omega) rfl (pa_cons (pv 0) (pa_cons (pe_callB call_len (by rfl) T.n_len PySem.boot_len (pa_cons (pv 1) pa_nil)) pa_nil))) (fun _ _ => rfl))))
      , ?_⟩
    rcases h with ⟨p, xs, rfl, hq, pb, h0, h1, k⟩ | ⟨z, rfl, h0, h1, k⟩
    · refine ⟨_, rfl, _, rfl, _, rfl, _, xs.length, rfl, hq.elim (fun q => .inl ⟨_, q, rfl⟩) (fun q => .inr ⟨_, q, rfl⟩), g, xs.length, c, e, rfl, B, by omega, by omega, fun r H' r0 r1 D => ?_⟩
      obtain ⟨v, hv, ha⟩ := at_of r0 r1
      rcases hq with q | q
      · exact .inl ⟨_, _, _, _, rfl, rfl, D.seqL pb q, ha, k v H' hv D⟩
      · exact .inr (.inl ⟨_, _, _, _, rfl, rfl, D.seqT pb q, ha, k v H' hv D⟩)
    · have hz : z.length ≤ sizeLine := Nat.le_trans (Nat.le_of_lt h1) (by decide)
      refine ⟨_, rfl, _, rfl, _, rfl, _, z.length, rfl, ⟨hz, rfl⟩, g, z.length, c, e, rfl, B, by omega, by omega, fun r H' r0 r1 D => ?_⟩
      obtain ⟨v, hv, ha⟩ := at_of (xs := z.cps.toList) r0 (by simpa [Str.length] using r1)
      exact .inr (.inr ⟨_, _, _, rfl, rfl, hz, ha, k v H' hv D⟩)

def kws : List Str := ["let", "set", "give", "if", "else", "while", "for", "in", "def", "fn", "and", "or", "not", "true", "false", "none"]
theorem kws_split : Txt.split "let set give if else while for in def fn and or not true false none" " " = kws := by decide +kernel
def spKws : Sp := fun vs H Q _ => vs = [] ∧ ∀ p, H p = none → Q (.ref p) (upd H p (.lst (kws.map V.str)))
theorem c_l_keywords (T : Txt K mg w) : Cal P w K mg base 1 "_law_keywords" spKws [] := by
  refine calOf T.d_l_keywords sc_l_keywords (fun vs H Q E h => ?_) (fun f cdv A outer s H vs Q E hr h => ?_)
  · obtain ⟨rfl, _⟩ := h
    rfl
  · obtain ⟨rfl, k⟩ := h
    refine ⟨_,
      (pss_one (ps_ret (pe_split pe_str pe_str)))
      , ?_⟩
    refine ⟨⟨_, rfl⟩, _, _, rfl, rfl, rfl, by decide, fun p hp => ?_⟩
    rw [kws_split]
    exact k p hp

def isLetter (c : Nat) : Bool := (decide (65 ≤ c) && decide (c ≤ 90)) || decide (c = 95) || (decide (97 ≤ c) && decide (c ≤ 122))
def isDigit (c : Nat) : Bool := decide (48 ≤ c) && decide (c ≤ 57)
/-- a word that is a name of the language -/
def nameL (l : List Nat) : Bool := match l with
  | [] => false
  | c :: r => isLetter c && r.all fun d => isLetter d || isDigit d
structure NameOk (z : Str) : Prop where
  form : nameL z.cps.toList = true
  free : z ∉ kws
  size : z.length ≤ 12
def spName : Sp := fun vs H Q _ => ∃ (g : Bg) (c e : Int), vs = [.ref g.b] ∧ Bag H g c e ∧
  ∀ (z : Str) (H' : Hp), NameOk z → Drawn g H H' c e → Q (.str z) H'
def someNames : List Str := ["a", "b", "x1", "total", "_", "longer_name", "iff", "in2", "K"]
theorem someNames_ok : ∀ z ∈ someNames, NameOk z := by
  have h : someNames.all (fun z => nameL z.cps.toList && decide (z ∉ kws) && decide (z.length ≤ 12)) = true := by decide +kernel
  intro z hz
  have q := List.all_eq_true.mp h z hz
  rw [Bool.and_eq_true, Bool.and_eq_true] at q
  exact ⟨q.1.1, of_decide_eq_true q.1.2, of_decide_eq_true q.2⟩
theorem letters_ok : ∀ h ∈ (("abcdefghijklmnopqrstuvwxyzABCDEFGHIJKLMNOPQRSTUVWXYZ_" : Str)).cps.toList, isLetter h = true := by
  have h : (("abcdefghijklmnopqrstuvwxyzABCDEFGHIJKLMNOPQRSTUVWXYZ_" : Str)).cps.toList.all isLetter = true := by decide +kernel
  exact fun z hz => List.all_eq_true.mp h z hz
theorem more_ok : ∀ h ∈ (("abcdefghijklmnopqrstuvwxyzABCDEFGHIJKLMNOPQRSTUVWXYZ_" ++ "0123456789" : Str)).cps.toList, (isLetter h || isDigit h) = true := by
  have h : (("abcdefghijklmnopqrstuvwxyzABCDEFGHIJKLMNOPQRSTUVWXYZ_" ++ "0123456789" : Str)).cps.toList.all (fun h => isLetter h || isDigit h) = true := by decide +kernel
  exact fun z hz => List.all_eq_true.mp h z hz
theorem str_app (x y : Str) : (x ++ y).cps.toList = x.cps.toList ++ y.cps.toList := TL.tl_append x y
theorem str_len (x : Str) : x.length = x.cps.toList.length := by simp [Str.length]
theorem nameL_app {l : List Nat} {d : Nat} (h : nameL l = true) (hd : (isLetter d || isDigit d) = true) : nameL (l ++ [d]) = true := by
  cases l with
  | nil => cases h
  | cons c r =>
    have h' : (isLetter c && r.all fun d => isLetter d || isDigit d) = true := h
    rw [Bool.and_eq_true] at h'
    show (isLetter c && (r ++ [d]).all fun d => isLetter d || isDigit d) = true
    rw [Bool.and_eq_true, List.all_append, Bool.and_eq_true]
    exact ⟨h'.1, h'.2, by rw [List.all_cons, List.all_nil, hd] <;> rfl⟩
theorem kw_under {z : Str} (h : z ∈ kws) : z ++ ("_" : Str) ∉ kws := by
  have q : kws.all (fun z => decide (z ++ ("_" : Str) ∉ kws)) = true := by decide +kernel
  exact of_decide_eq_true (List.all_eq_true.mp q z h)
theorem strs_mem {z : V} {l : List Str} (h : z ∈ l.map V.str) : ∃ s ∈ l, z = .str s := by
  obtain ⟨s, hs, rfl⟩ := List.mem_map.mp h
  exact ⟨s, hs, rfl⟩
theorem strs_flat (l : List Str) : (l.map V.str).all flatV = true := by
  rw [List.all_map]
  exact List.all_eq_true.mpr fun _ _ => rfl
theorem inV_strs (z : Str) (l : List Str) : inV (.str z) (l.map V.str) = decide (z ∈ l) := by
  unfold inV
  induction l with
  | nil => rfl
  | cons y r ih =>
    rw [List.map_cons, List.any_cons, ih]
    have e : eqV (.str y) (.str z) = decide (y = z) := rfl
    rw [e]
    by_cases h : y = z
    · subst h
      simp
    · have h' : z ≠ y := fun q => h q.symm
      simp [h, h']
theorem c_l_name (T : Txt K mg w) (c_l_take : Cal P w K mg base 1 "_law_take" spTake []) (c_l_one : Cal P w K mg base 2 "_law_one" (spOne K) [])
    (c_l_keywords : Cal P w K mg base 1 "_law_keywords" spKws []) : Cal P w K mg base 3 "_law_name" spName [] := by
  refine calOf T.d_l_name sc_l_name (fun vs H Q E h => ?_) (fun f cdv A outer s H vs Q E hr h => ?_)
  · obtain ⟨g, c, e, rfl, _⟩ := h
    rfl
  · obtain ⟨g, c, e, rfl, B, k⟩ := h
    refine ⟨_,
      (pss_cons (ps_if (pt_cmpR op_gt (pe_c c_l_take hr (by first | decide | omega) rfl (pa_cons (pv 0) (pa_cons pe_int pa_nil))) pe_int (nomark _))
        (pss_one (ps_ret (pe_c c_l_one hr (by first | decide | omega) rfl (pa_cons (pv 0) (pa_cons (pe_lst (pa_cons pe_str (pa_cons pe_str (pa_cons pe_str (pa_cons pe_str (pa_cons pe_str (pa_cons pe_str (pa_cons pe_str (pa_cons pe_str (pa_cons pe_str pa_nil)))))))))) pa_nil)))))
        pss_nil)
        (pss_cons (ps_set (i := 1) sc_l_name.nd rfl (Or.inl rfl) pe_str)
        (pss_cons (ps_set (i := 2) sc_l_name.nd rfl (Or.inl rfl) (pe_c c_l_one hr (by first | decide | omega) rfl (pa_cons (pv 0) (pa_cons (pv 1) pa_nil))))
        (pss_cons (ps_for PassesOwn.never rfl (pi_range1 (by rfl) T.n_range (pa_cons (pe_c c_l_take hr (by first | decide | omega) rfl (pa_cons (pv 0) (pa_cons pe_int pa_nil))) pa_nil)) (pg_name (i := 3) sc_l_name.nd rfl (Or.inl rfl))
        (pss_one (ps_set (i := 2) sc_l_name.nd rfl (Or.inl rfl) (pe_op op_add_str (pv 2) (pe_c c_l_one hr (by first | decide | omega) rfl (pa_cons (pv 0) (pa_cons (pe_op op_add_str (pv 1) pe_str) pa_nil)))))))
        (pss_one (ps_ret (pe_ifExp (pt_cmpR op_in_seq (pv 2) (pe_c0 c_l_keywords hr (by first | decide | omega) rfl) (by rfl)) (pe_op op_add_str (pv 2) pe_str) (pv 2))))))))
      , ?_⟩
    refine ⟨_, rfl, g, 4, c, e, rfl, B, by decide, by decide, fun r H1 r0 r1 D1 => ?_⟩
    walk_at "rd"
    refine ite2 (fun h1 => ?_) (fun h1 => ?_)
    · refine ⟨_, rfl, by decide, fun p hp => ?_⟩
      have D2 := D1.new (o := .lst (someNames.map V.str)) hp
      refine ⟨g, _, c, e, rfl, D2.bag, .inl ⟨p, someNames.map V.str, rfl, .inl (SqL.of upd_same), D1.bag.ne_new hp, by decide, by decide, fun v H' hv D3 => ?_⟩⟩
      obtain ⟨z, hz, rfl⟩ := strs_mem hv
      exact k z H' (someNames_ok z hz) (D2.trans D3)
    · walk_at "rd"
      refine ⟨g, _, c, e, rfl, D1.bag, .inr ⟨_, rfl, by decide, by decide, fun d H2 hd D2 => ?_⟩⟩
      have D12 := D1.trans D2
      walk_at "rd"
      refine ⟨g, _, c, e, rfl, D12.bag, by decide, by decide, fun r2 H3 r20 r21 D3 => ⟨_, rfl, by omega, by omega, ?_⟩⟩
      refine for_range (lo := 0) (n := r2.toNat) (fun i σ H' => ∃ (z : Str) (v : Option V), σ = [some (.ref g.b), some (.str "abcdefghijklmnopqrstuvwxyzABCDEFGHIJKLMNOPQRSTUVWXYZ_"), some (.str z), v] ∧
        nameL z.cps.toList = true ∧ z.length = i + 1 ∧ Drawn g H H' c e) ⟨⟨#[d]⟩, none, rfl, ?_, rfl, D12.trans D3⟩ ?_ ?_
      · show (isLetter d && true) = true
        rw [letters_ok d hd] <;> rfl
      · rintro i σ H' hi ⟨z, v, rfl, hz, hl, D⟩
        walk_at "rd"
        refine ⟨by decide, g, _, c, e, rfl, D.bag, .inr ⟨_, rfl, by decide, by decide, fun d2 H2 hd2 D2 => ?_⟩⟩
        have e1 : (⟨#[d2]⟩ : Str).length = 1 := rfl
        refine ⟨_, _, rfl, rfl, by rw [hl, e1]; exact Nat.le_trans (show i + 1 + 1 ≤ 9 by omega) (by decide), ?_⟩
        refine ⟨_, _, rfl, ?_, ?_, D.trans D2⟩
        · rw [str_app]
          exact nameL_app hz (more_ok d2 hd2)
        · rw [Str.length_append, hl, e1]
      · rintro σ H' ⟨z, v, rfl, hz, hl, D⟩
        refine ⟨_, rfl, rfl, fun p hp => ?_⟩
        refine ⟨p, kws.map V.str, rfl, .inl (SqL.of upd_same), rfl, strs_flat _, _, rfl, ?_⟩
        have D' := D.new (o := .lst (kws.map V.str)) hp
        rw [if_neg Bool.false_ne_true, inV_strs]
        refine ite2 (fun h2 => ?_) (fun h2 => ?_)
        · have e1 : ("_" : Str).length = 1 := rfl
          refine ⟨_, rfl, _, _, rfl, rfl, by rw [hl, e1]; exact Nat.le_trans (show r2.toNat + 1 + 1 ≤ 9 by omega) (by decide), ?_⟩
          refine k _ _ ⟨?_, kw_under (of_decide_eq_true h2), ?_⟩ D'
          · rw [str_app]
            exact nameL_app hz rfl
          · rw [Str.length_append, hl, e1]
            omega
        · exact ⟨_, rfl, k _ _ ⟨hz, fun q => h2 (decide_eq_true q), by omega⟩ D'⟩

def numbersL : List Str := ["0", "1", "12", "3.5", "007", "10.0", "4689", "86.94"]
def quotesL : List Str := ["\"\"", "\"a b\"", "\"\\\"\\n\"", "\"# <* ;\"", "\"'''\"", "\"\\\\\"", "\"\\t\""]
def constsL : List Str := ["true", "false", "none"]
def rawsL : List Str := ["''''''", "'''a\nb'''", "'''  # x '''", "'''\n'''", "'''\" ''x'''"]
/-- a word of its kind -/
inductive Leaf : Str → Str → Prop
  | name {w : Str} : NameOk w → Leaf "name" w
  | number {w : Str} : w ∈ numbersL → Leaf "number" w
  | quote {w : Str} : w ∈ quotesL → Leaf "quote" w
  | word {w : Str} : w ∈ constsL → Leaf "word" w
  | raw {w : Str} : w ∈ rawsL → Leaf "raw" w
def spAtom : Sp := fun vs H Q _ => ∃ (g : Bg) (c e : Int), vs = [.ref g.b] ∧ Bag H g c e ∧
  ∀ (v : V) (k w : Str) (H' : Hp), Leaf k w → Tr H' v (.tuple [.str k, .str w]) → Drawn g H H' c e → Q v H'
theorem pair_tr {H : Hp} {p : Addr} (k w : Str) : Tr (upd H p (.tup [.str k, .str w])) (.ref p) (.tuple [.str k, .str w]) := .tup upd_same (.cons (.str k) (.cons (.str w) .nil))
theorem c_l_atom (T : Txt K mg w) (c_l_take : Cal P w K mg base 1 "_law_take" spTake []) (c_l_one : Cal P w K mg base 2 "_law_one" (spOne K) [])
    (c_l_name : Cal P w K mg base 3 "_law_name" spName []) : Cal P w K mg base 4 "_law_atom" spAtom [] := by
  refine calOf T.d_l_atom sc_l_atom (fun vs H Q E h => ?_) (fun f cdv A outer s H vs Q E hr h => ?_)
  · obtain ⟨g, c, e, rfl, _⟩ := h
    rfl
  · obtain ⟨g, c, e, rfl, B, k⟩ := h
    refine ⟨_,
      (pss_cons (ps_set (i := 1) sc_l_atom.nd rfl (Or.inl rfl) (pe_c c_l_take hr (by first | decide | omega) rfl (pa_cons (pv 0) (pa_cons pe_int pa_nil))))
        (pss_cons (ps_if (pt_cmpR op_lt (pv 1) pe_int (nomark _))
        (pss_one (ps_ret (pe_tup (pa_cons pe_str (pa_cons (pe_c c_l_name hr (by first | decide | omega) rfl (pa_cons (pv 0) pa_nil)) pa_nil)))))
        pss_nil)
        (pss_cons (ps_if (pt_cmpR op_lt (pv 1) pe_int (nomark _))
        (pss_one (ps_ret (pe_tup (pa_cons pe_str (pa_cons (pe_c c_l_one hr (by first | decide | omega) rfl (pa_cons (pv 0) (pa_cons (pe_lst (pa_cons pe_str (pa_cons pe_str (pa_cons pe_str (pa_cons pe_str (pa_cons pe_str (pa_cons pe_str (pa_cons pe_str (pa_cons pe_str pa_nil))))))))) pa_nil))) pa_nil)))))
        pss_nil)
        (pss_cons (ps_if (pt_cmpR op_eq (pv 1) pe_int (nomark _))
        (pss_cons (ps_set (i := 2) sc_l_atom.nd rfl (Or.inl rfl) (pe_lst (pa_cons pe_str (pa_cons pe_str (pa_cons pe_str (pa_cons pe_str (pa_cons pe_str (pa_cons pe_str (pa_cons pe_str pa_nil)))))))))
        (pss_one (ps_ret (pe_tup (pa_cons pe_str (pa_cons (pe_c c_l_one hr (by first | decide | omega) rfl (pa_cons (pv 0) (pa_cons (pv 2) pa_nil))) pa_nil))))))
        pss_nil)
        (pss_cons (ps_if (pt_cmpR op_eq (pv 1) pe_int (nomark _))
        (pss_one (ps_ret (pe_tup (pa_cons pe_str (pa_cons (pe_c c_l_one hr (by first | decide | omega) rfl (pa_cons (pv 0) (pa_cons (pe_lst (pa_cons pe_str (pa_cons pe_str (pa_cons pe_str pa_nil)))) pa_nil))) pa_nil)))))
        pss_nil)
        (pss_one (ps_ret (pe_tup (pa_cons pe_str (pa_cons (pe_c c_l_one hr (by first | decide | omega) rfl (pa_cons (pv 0) (pa_cons (pe_lst (pa_cons pe_str (pa_cons pe_str (pa_cons pe_str (pa_cons pe_str (pa_cons pe_str pa_nil)))))) pa_nil))) pa_nil))))))))))
      , ?_⟩
    -- one of some written texts, and the tuple of it
    have pick : ∀ (l : List Str) (kd : Str) (H1 : Hp), Drawn g H H1 c e → 0 < l.length → l.length < 1000 → (∀ w ∈ l, Leaf kd w) → ∀ p, H1 p = none →
        ∀ Q' : VK, (∀ w H3, Drawn g H H3 c e → w ∈ l → Q' (.str w) H3) → spOne K [.ref g.b, .ref p] (upd H1 p (.lst (l.map V.str))) Q' E0 := by
      intro l kd H1 D h0 h1 hl p hp Q' q
      have D2 := D.new (o := .lst (l.map V.str)) hp
      refine ⟨g, _, c, e, rfl, D2.bag, .inl ⟨p, l.map V.str, rfl, .inl (SqL.of upd_same), D.bag.ne_new hp, by rw [List.length_map]; exact h0, by rw [List.length_map]; exact h1, fun v H' hv D3 => ?_⟩⟩
      obtain ⟨z, hz, rfl⟩ := strs_mem hv
      exact q z H' (D2.trans D3) hz
    refine ⟨_, rfl, g, 8, c, e, rfl, B, by decide, by decide, fun r H1 r0 r1 D1 => ?_⟩
    walk_at "rd"
    refine ite2 (fun h1 => ?_) (fun h1 => ?_)
    · walk_at "rd"
      refine ⟨g, c, e, rfl, D1.bag, fun z H2 hz D2 => ⟨by show 2 ≤ sizeLine; decide, fun p hp => ?_⟩⟩
      exact k _ _ _ _ (.name hz) (pair_tr _ _) ((D1.trans D2).new hp)
    · walk_at "rd"
      refine ite2 (fun h2 => ?_) (fun h2 => ?_)
      · walk_at "rd"
        refine ⟨by decide, fun p hp => pick numbersL "number" H1 D1 (by decide) (by decide) (fun w hw => .number hw) p hp _ fun w H3 D3 hw => ⟨by show 2 ≤ sizeLine; decide, fun p2 hp2 => ?_⟩⟩
        exact k _ _ _ _ (.number hw) (pair_tr _ _) (D3.new hp2)
      · walk_at "rd"
        refine ite2 (fun h3 => ?_) (fun h3 => ?_)
        · walk_at "rd"
          refine ⟨by decide, fun p hp => ?_⟩
          walk_at "rd"
          refine pick quotesL "quote" H1 D1 (by decide) (by decide) (fun w hw => .quote hw) p hp _ fun w H3 D3 hw => ⟨by show 2 ≤ sizeLine; decide, fun p2 hp2 => ?_⟩
          exact k _ _ _ _ (.quote hw) (pair_tr _ _) (D3.new hp2)
        · walk_at "rd"
          refine ite2 (fun h4 => ?_) (fun h4 => ?_)
          · walk_at "rd"
            refine ⟨by decide, fun p hp => pick constsL "word" H1 D1 (by decide) (by decide) (fun w hw => .word hw) p hp _ fun w H3 D3 hw => ⟨by show 2 ≤ sizeLine; decide, fun p2 hp2 => ?_⟩⟩
            exact k _ _ _ _ (.word hw) (pair_tr _ _) (D3.new hp2)
          · walk_at "rd"
            refine ⟨by decide, fun p hp => pick rawsL "raw" H1 D1 (by decide) (by decide) (fun w hw => .raw hw) p hp _ fun w H3 D3 hw => ⟨by show 2 ≤ sizeLine; decide, fun p2 hp2 => ?_⟩⟩
            exact k _ _ _ _ (.raw hw) (pair_tr _ _) (D3.new hp2)

def spNames : Sp := fun vs H Q _ => ∃ (g : Bg) (c e : Int), vs = [.ref g.b] ∧ Bag H g c e ∧
  ∀ (v : V) (ns : List Str) (H' : Hp), (∀ n ∈ ns, NameOk n) → ns.length ≤ 2 → Tr H' v (.tuple (ns.map .str)) → Drawn g H H' c e → Q v H'
theorem c_l_names (T : Txt K mg w) (c_l_one : Cal P w K mg base 2 "_law_one" (spOne K) [])
    (c_l_name : Cal P w K mg base 3 "_law_name" spName []) : Cal P w K mg base 4 "_law_names" spNames [] := by
  refine calOf T.d_l_names sc_l_names (fun vs H Q E h => ?_) (fun f cdv A outer s H vs Q E hr h => ?_)
  · obtain ⟨g, c, e, rfl, _⟩ := h
    rfl
  · obtain ⟨g, c, e, rfl, B, k⟩ := h
    refine ⟨_,
      (pss_one (ps_ret (pe_callTy call_tuple_of (by rfl) T.n_tuple (by decide +kernel) (pa_cons (pe_lc (own := [("_law_turn", 1)]) (g := gName 1) (tt := tYes) rfl sc_l_names.nd (pi_range1 (by rfl) T.n_range (pa_cons (pe_c c_l_one hr (by first | decide | omega) rfl (pa_cons (pv 0) (pa_cons (pe_lst (pa_cons pe_int (pa_cons pe_int (pa_cons pe_int (pa_cons pe_int pa_nil))))) pa_nil))) pa_nil)) (blkOk_by (N := ["_law_bag_here", "_law_turn"]) (sc := defScope s_l_names) (by decide +kernel)) (fun _ _ _ _ _ => pg_name (i := 1) sc_l_names.nd rfl (Or.inl rfl)) (fun _ _ _ _ _ => pts_nil) (fun _ _ _ _ _ => (pe_c c_l_name hr (by first | decide | omega) rfl (pa_cons (pv 0) pa_nil)))) pa_nil))))
      , ?_⟩
    refine ⟨_, rfl, by decide, fun p hp => ?_⟩
    have D1 := (Drawn.of B).new (o := .lst [.int 0, .int 1, .int 2, .int 1]) hp
    refine ⟨g, _, c, e, rfl, D1.bag, .inl ⟨p, _, rfl, .inl (SqL.of upd_same), B.ne_new hp, by decide, by decide, fun v H2 hv D2 => ?_⟩⟩
    have D12 := D1.trans D2
    obtain ⟨n, hn, rfl⟩ : ∃ n : Nat, n ≤ 2 ∧ v = .int n := by
      simp only [List.mem_cons, List.not_mem_nil, or_false] at hv
      rcases hv with rfl | rfl | rfl | rfl
      · exact ⟨0, by decide, rfl⟩
      · exact ⟨1, by decide, rfl⟩
      · exact ⟨2, by decide, rfl⟩
      · exact ⟨1, by decide, rfl⟩
    refine ⟨_, rfl, by omega, by omega, fun D hD => ?_⟩
    refine lc_range (lo := 0) (n := ((n : Int)).toNat) (fun i H' => ∃ ns : List Str, (∀ n ∈ ns, NameOk n) ∧ ns.length = i ∧ H' D = some (.lst (ns.map V.str)) ∧ Drawn g H2 H' c e) ⟨[], by simp, rfl, upd_same, (Drawn.of D12.bag).put D12.bag hD⟩ ?_ ?_
    · rintro i H' hi ⟨ns, hns, hl, hd, Dw⟩
      refine ⟨rfl, _, rfl, g, c, e, rfl, Dw.bag, fun z H3 hz D3 => ?_⟩
      have nb := D12.bag.ne_new hD
      refine ⟨_, D3.keep nb hd, by rw [List.length_map, hl]; exact Nat.lt_of_lt_of_le (show i < 100 by omega) (by decide), ns ++ [z], ?_, ?_, ?_, (Dw.trans D3).put D12.bag hD⟩
      · intro n hn
        rcases List.mem_append.mp hn with h | h
        · exact hns n h
        · rw [List.mem_singleton.mp h]
          exact hz
      · rw [List.length_append, hl] <;> rfl
      · rw [upd_same, List.map_append] <;> rfl
    · rintro H' ⟨ns, hns, hl, hd, Dw⟩
      refine ⟨_, _, rfl, .inl ⟨SqL.of hd, fun q hq => ?_⟩⟩
      exact k _ ns _ hns (by omega) (.tup upd_same (TrAll.strs ns)) ((D12.trans Dw).new hq)

def signsL : List Str := ["+", "-", "*", "/", "*", "^", "==", "<", "<=", "!=", ">", ">=", "and", "or", "+", "-", "^"]
/-- the expressions that are drawn, by how deep they may be -/
inductive Ex : Nat → PyData → Prop
  | leaf {n : Nat} {k w : Str} : Leaf k w → Ex n (.tuple [.str k, .str w])
  | two {n : Nat} {o : Str} {l r : PyData} : o ∈ signsL → Ex n l → Ex n r → Ex (n + 1) (.tuple [.str "two", .str o, l, r])
  | not {n : Nat} {a : PyData} : Ex n a → Ex (n + 1) (.tuple [.str "not", a])
  | minus {n : Nat} {a : PyData} : Ex n a → Ex (n + 1) (.tuple [.str "minus", a])
  | call {n : Nat} {h : PyData} {ds : List PyData} : Ex n h → ds.length ≤ 3 → (∀ d ∈ ds, Ex n d) → Ex (n + 1) (.tuple [.str "call", h, .tuple ds])
  | field {n : Nat} {h : PyData} {z : Str} : Ex n h → NameOk z → Ex (n + 1) (.tuple [.str "field", h, .str z])
  | index {n : Nat} {a b : PyData} : Ex n a → Ex n b → Ex (n + 1) (.tuple [.str "index", a, b])
  | list {n : Nat} {ds : List PyData} : ds.length ≤ 3 → (∀ d ∈ ds, Ex n d) → Ex (n + 1) (.tuple [.str "list", .tuple ds])
  | map {n : Nat} {ps : List (PyData × PyData)} : ps.length ≤ 3 → (∀ p ∈ ps, Ex n p.1) → (∀ p ∈ ps, Ex n p.2) → Ex (n + 1) (.tuple [.str "map", .tuple (ps.map fun p => .tuple [p.1, p.2])])
  | fn {n : Nat} {ns : List Str} {b : PyData} : ns.length ≤ 2 → (∀ z ∈ ns, NameOk z) → Ex n b → Ex (n + 1) (.tuple [.str "fn", .tuple (ns.map .str), b])
/-- below depth m -/
def spPart (m : Nat) : Sp := fun vs H Q _ => ∃ (g : Bg) (n : Nat) (c e : Int), vs = [.ref g.b, .int n] ∧ n < m ∧ Bag H g c e ∧
  ∀ (v : V) (d : PyData) (H' : Hp) (e' : Int), Ex n d → Tr H' v d → Drawn g H H' c e' → Q v H'
theorem part_none (T : Txt K mg w) : Cal P w K mg base 4 "_law_part" (spPart 0) [] := by
  refine calOf T.d_l_part sc_l_part (fun vs H Q E h => ?_) (fun f cdv A outer s H vs Q E hr h => ?_)
  · obtain ⟨g, n, c, e, rfl, h, _⟩ := h
    exact absurd h (Nat.not_lt_zero _)
  · obtain ⟨g, n, c, e, rfl, h, _⟩ := h
    exact absurd h (Nat.not_lt_zero _)
theorem tr2 {H : Hp} {p : Addr} {x y : V} {d e : PyData} (a : Tr H x d) (b : Tr H y e) (h : H p = none) : Tr (upd H p (.tup [x, y])) (.ref p) (.tuple [d, e]) :=
  .tup upd_same (.cons (a.keep ((Tk.refl H).new h)) (.cons (b.keep ((Tk.refl H).new h)) .nil))
theorem tr3 {H : Hp} {p : Addr} {x y z : V} {d e f : PyData} (a : Tr H x d) (b : Tr H y e) (c : Tr H z f) (h : H p = none) : Tr (upd H p (.tup [x, y, z])) (.ref p) (.tuple [d, e, f]) :=
  .tup upd_same (.cons (a.keep ((Tk.refl H).new h)) (.cons (b.keep ((Tk.refl H).new h)) (.cons (c.keep ((Tk.refl H).new h)) .nil)))
theorem tr4 {H : Hp} {p : Addr} {x y z u : V} {d e f i : PyData} (a : Tr H x d) (b : Tr H y e) (c : Tr H z f) (q : Tr H u i) (h : H p = none) : Tr (upd H p (.tup [x, y, z, u])) (.ref p) (.tuple [d, e, f, i]) :=
  .tup upd_same (.cons (a.keep ((Tk.refl H).new h)) (.cons (b.keep ((Tk.refl H).new h)) (.cons (c.keep ((Tk.refl H).new h)) (.cons (q.keep ((Tk.refl H).new h)) .nil))))
theorem trs {H : Hp} {p : Addr} {xs : List V} {ds : List PyData} (a : TrAll H xs ds) (h : H p = none) : Tr (upd H p (.tup xs)) (.ref p) (.tuple ds) :=
  .tup upd_same (a.keep ((Tk.refl H).new h))
/-- a list that is no tuple changes -/
theorem tk_lst {H : Hp} {p : Addr} {xs : List V} {o : HO} (h : H p = some (.lst xs)) : Tk H (upd H p o) := (Tk.refl H).put fun ys z => by
  rw [h] at z
  cases z
theorem c_l_part (T : Txt K mg w) {m : Nat} (c_l_take : Cal P w K mg base 1 "_law_take" spTake []) (c_l_one : Cal P w K mg base 2 "_law_one" (spOne K) [])
    (c_l_name : Cal P w K mg base 3 "_law_name" spName []) (c_l_names : Cal P w K mg base 4 "_law_names" spNames []) (c_l_atom : Cal P w K mg base 4 "_law_atom" spAtom [])
    (c_l_part : Cal P w K mg base (4 + m) "_law_part" (spPart m) []) : Cal P w K mg base (4 + m + 1) "_law_part" (spPart (m + 1)) [] := by
  refine calOf T.d_l_part sc_l_part (fun vs H Q E h => ?_) (fun f cdv A outer s H vs Q E hr h => ?_)
  · obtain ⟨g, n, c, e, rfl, _⟩ := h
    rfl
  · obtain ⟨g, n, c, e, rfl, hn, B, k⟩ := h
    obtain ⟨z, mm, i, ns, hb, hL, rest⟩ := B.ex
    refine ⟨_,
      (pss_cons (ps_augS (pv 0) pe_int get_list pe_int ip_add set_list)
        (Evl.pss_cut (ps_set (i := 2) sc_l_part.nd rfl (Or.inl rfl) (pe_ifExp (PW.pt (pw_and (pt_cmpR op_gt (pv 1) pe_int (nomark _)) (pw_and1 (pt_cmpR op_lt (pe_ix ix_list (pv 0) pe_int (fun _ _ => rfl)) pe_int (nomark _))))) (pe_c c_l_take hr (by first | decide | omega) rfl (pa_cons (pv 0) (pa_cons pe_int pa_nil))) pe_int))
        (pss_cons (ps_if (pt_cmpR op_lt (pv 2) pe_int (nomark _))
        (pss_one (ps_ret (pe_c c_l_atom hr (by first | decide | omega) rfl (pa_cons (pv 0) pa_nil))))
        pss_nil)
        (pss_cons (ps_if (pt_cmpR op_lt (pv 2) pe_int (nomark _))
        (pss_cons (ps_set (i := 3) sc_l_part.nd rfl (Or.inl rfl) (pe_lst (pa_cons pe_str (pa_cons pe_str (pa_cons pe_str (pa_cons pe_str (pa_cons pe_str (pa_cons pe_str (pa_cons pe_str (pa_cons pe_str (pa_cons pe_str (pa_cons pe_str (pa_cons pe_str (pa_cons pe_str (pa_cons pe_str (pa_cons pe_str (pa_cons pe_str (pa_cons pe_str (pa_cons pe_str pa_nil)))))))))))))))))))
        (pss_one (ps_ret (pe_tup (pa_cons pe_str (pa_cons (pe_c c_l_one hr (by first | decide | omega) rfl (pa_cons (pv 0) (pa_cons (pv 3) pa_nil))) (pa_cons (pe_c c_l_part hr (by first | decide | omega) rfl (pa_cons (pv 0) (pa_cons (pe_op op_sub (pv 1) pe_int) pa_nil))) (pa_cons (pe_c c_l_part hr (by first | decide | omega) rfl (pa_cons (pv 0) (pa_cons (pe_op op_sub (pv 1) pe_int) pa_nil))) pa_nil))))))))
        pss_nil)
        (pss_cons (ps_if (pt_cmpR op_lt (pv 2) pe_int (nomark _))
        (pss_one (ps_ret (pe_tup (pa_cons (pe_ifExp (pt_cmpR op_eq (pv 2) pe_int (nomark _)) pe_str pe_str) (pa_cons (pe_c c_l_part hr (by first | decide | omega) rfl (pa_cons (pv 0) (pa_cons (pe_op op_sub (pv 1) pe_int) pa_nil))) pa_nil)))))
        pss_nil)
        (pss_cons (ps_set (i := 4) sc_l_part.nd rfl (Or.inl rfl) (pe_c c_l_part hr (by first | decide | omega) rfl (pa_cons (pv 0) (pa_cons (pe_op op_sub (pv 1) pe_int) pa_nil))))
        (pss_cons (ps_set (i := 5) sc_l_part.nd rfl (Or.inl rfl) (pe_callTy call_tuple_of (by rfl) T.n_tuple (by decide +kernel) (pa_cons (pe_lc (own := [("_law_turn", 6)]) (g := gName 6) (tt := tYes) rfl sc_l_part.nd (pi_range1 (by rfl) T.n_range (pa_cons (pe_c c_l_one hr (by first | decide | omega) rfl (pa_cons (pv 0) (pa_cons (pe_lst (pa_cons pe_int (pa_cons pe_int (pa_cons pe_int (pa_cons pe_int (pa_cons pe_int pa_nil)))))) pa_nil))) pa_nil)) (blkOk_by (N := ["_law_bag_here", "_law_deep", "_law_way", "_law_signs", "_law_inner", "_law_some", "_law_turn", "_law_key"]) (sc := defScope s_l_part) (by decide +kernel)) (fun _ _ _ _ _ => pg_name (i := 6) sc_l_part.nd rfl (Or.inl rfl)) (fun _ _ _ _ _ => pts_nil) (fun _ _ _ _ _ => (pe_c c_l_part hr (by first | decide | omega) rfl (pa_cons (pv 0) (pa_cons (pe_op op_sub (pv 1) pe_int) pa_nil))))) pa_nil)))
        (pss_cons (ps_if (pt_cmpR op_eq (pv 2) pe_int (nomark _))
        (pss_one (ps_ret (pe_tup (pa_cons pe_str (pa_cons (pv 4) (pa_cons (pv 5) pa_nil))))))
        pss_nil)
        (pss_cons (ps_if (pt_cmpR op_eq (pv 2) pe_int (nomark _))
        (pss_cons (ps_if (pt_cmpR op_eq (pe_c c_l_take hr (by first | decide | omega) rfl (pa_cons (pv 0) (pa_cons pe_int pa_nil))) pe_int (nomark _))
        (pss_one (ps_ret (pe_tup (pa_cons pe_str (pa_cons (pv 4) (pa_cons (pe_c c_l_name hr (by first | decide | omega) rfl (pa_cons (pv 0) pa_nil)) pa_nil))))))
        pss_nil)
        (pss_one (ps_ret (pe_tup (pa_cons pe_str (pa_cons (pv 4) (pa_cons (pe_c c_l_part hr (by first | decide | omega) rfl (pa_cons (pv 0) (pa_cons (pe_op op_sub (pv 1) pe_int) pa_nil))) pa_nil)))))))
        pss_nil)
        (pss_cons (ps_if (pt_cmpR op_eq (pv 2) pe_int (nomark _))
        (pss_one (ps_ret (pe_tup (pa_cons pe_str (pa_cons (pv 5) pa_nil)))))
        pss_nil)
        (pss_cons (ps_if (pt_cmpR op_eq (pv 2) pe_int (nomark _))
        (pss_one (ps_ret (pe_tup (pa_cons pe_str (pa_cons (pe_callTy call_tuple_of (by rfl) T.n_tuple (by decide +kernel) (pa_cons (pe_lc (own := [("_law_key", 7)]) (g := gName 7) (tt := tYes) rfl sc_l_part.nd (pi_tup (pv 5)) (blkOk_by (N := ["_law_bag_here", "_law_deep", "_law_way", "_law_signs", "_law_inner", "_law_some", "_law_turn", "_law_key"]) (sc := defScope s_l_part) (by decide +kernel)) (fun _ _ _ _ _ => pg_name (i := 7) sc_l_part.nd rfl (Or.inl rfl)) (fun _ _ _ _ _ => pts_nil) (fun _ _ _ _ _ => (pe_tup (pa_cons (pv 7) (pa_cons (pe_c c_l_part hr (by first | decide | omega) rfl (pa_cons (pv 0) (pa_cons (pe_op op_sub (pv 1) pe_int) pa_nil))) pa_nil))))) pa_nil)) pa_nil)))))
        pss_nil)
        (pss_one (ps_ret (pe_tup (pa_cons pe_str (pa_cons (pe_c c_l_names hr (by first | decide | omega) rfl (pa_cons (pv 0) pa_nil)) (pa_cons (pv 4) pa_nil)))))))))))))))))
      , ?_⟩
    walk_at "rd"
    have D1 : Drawn g H (upd H g.b (.lst [.int z, .int mm, .int i, .ref g.L, .int c, .int (e + 1)])) c (e + 1) :=
      .mk' B ⟨⟨z, mm, i, ns, upd_same, by rw [upd_ne B.ne]; exact hL, rest⟩, B.ne⟩ (Fr.refl _ _).at
    refine ⟨fun σ' H' => ∃ r : Int, σ' = [some (.ref g.b), some (.int n), some (.int r), none, none, none, none, none] ∧ 0 ≤ r ∧ r < 15 ∧ (3 ≤ r → 0 < n) ∧ Drawn g H H' c (e + 1), ?_, ?_⟩
    · walk_at "rd"
      refine ite2 (fun h0 => ?_) (fun h0 => ?_)
      · walk_at "rd"
        refine ite2 (fun h1 => ?_) (fun h1 => ?_)
        · exact ⟨_, rfl, g, 15, c, e + 1, rfl, D1.bag, by decide, by decide, fun r H1 r0 r1 D2 => ⟨r, rfl, r0, r1, fun _ => by have := of_decide_eq_true h0; omega, D1.trans D2⟩⟩
        · exact ⟨0, rfl, by decide, by decide, fun h => absurd h (by decide), D1⟩
      · exact ⟨0, rfl, by decide, by decide, fun h => absurd h (by decide), D1⟩
    · rintro σ' H1 ⟨r, rfl, r0, r1, rn, D1⟩
      walk_at "rd"
      refine ite2 (fun h1 => ?_) (fun h1 => ?_)
      · walk_at "rd"
        exact ⟨g, c, e + 1, rfl, D1.bag, fun v kd w H2 hl ht D2 => k v _ H2 _ (.leaf hl) ht (D1.trans D2)⟩
      · have r3 : 3 ≤ r := by
          have := of_decide_eq_false (Bool.eq_false_iff.mpr h1)
          omega
        obtain ⟨n, rfl⟩ : ∃ q, n = q + 1 := ⟨n - 1, by have := rn r3; omega⟩
        have em : ((n + 1 : Nat) : Int) - 1 = (n : Int) := by omega
        -- one more part
        have sub : ∀ (H2 : Hp) (e2 : Int) (Q' : VK), Drawn g H H2 c e2 → (∀ (v : V) (d : PyData) (H' : Hp) (e' : Int), Ex n d → Tr H' v d → Drawn g H2 H' c e' → Q' v H') →
            spPart m [.ref g.b, .int (((n + 1 : Nat) : Int) - 1)] H2 Q' E0 := by
          intro H2 e2 Q' D2 q
          rw [em]
          exact ⟨g, n, c, e2, rfl, by omega, D2.bag, q⟩
        walk_at "rd"
        refine ite2 (fun h2 => ?_) (fun h2 => ?_)
        · walk_at "rd"
          refine ⟨by decide, fun p hp => ?_⟩
          have D2 := D1.new (o := .lst (signsL.map V.str)) hp
          walk_at "rd"
          refine ⟨g, _, c, _, rfl, D2.bag, .inl ⟨p, signsL.map V.str, rfl, .inl (SqL.of upd_same), D1.bag.ne_new hp, by decide, by decide, fun v H3 hv D3 => ?_⟩⟩
          obtain ⟨o, ho, rfl⟩ := strs_mem hv
          have D3 := D2.trans D3
          walk_at "rd"
          refine sub _ _ _ D3 fun v1 d1 H4 e4 x1 t1 D4 => ?_
          walk_at "rd"
          refine sub _ _ _ (D3.trans D4) fun v2 d2 H5 e5 x2 t2 D5 => ⟨by show 4 ≤ sizeLine; decide, fun q hq => ?_⟩
          exact k _ _ _ _ (.two ho x1 x2) (tr4 (.str _) (.str o) (t1.keep D5.tk) t2 hq) ((D3.trans (D4.trans D5)).new hq)
        · walk_at "rd"
          refine ite2 (fun h3 => ?_) (fun h3 => ?_)
          · walk_at "rd"
            refine ite2 (fun h4 => ?_) (fun h4 => ?_)
            · walk_at "rd"
              refine sub _ _ _ D1 fun v1 d1 H2 e2 x1 t1 D2 => ⟨by show 2 ≤ sizeLine; decide, fun q hq => ?_⟩
              exact k _ _ _ _ (.not x1) (tr2 (.str _) t1 hq) ((D1.trans D2).new hq)
            · walk_at "rd"
              refine sub _ _ _ D1 fun v1 d1 H2 e2 x1 t1 D2 => ⟨by show 2 ≤ sizeLine; decide, fun q hq => ?_⟩
              exact k _ _ _ _ (.minus x1) (tr2 (.str _) t1 hq) ((D1.trans D2).new hq)
          · walk_at "rd"
            refine sub _ _ _ D1 fun v1 d1 H2 e2 x1 t1 D2 => ?_
            have D12 := D1.trans D2
            walk_at "rd"
            refine ⟨by decide, fun p hp => ?_⟩
            have D3 := D12.new (o := .lst [.int 0, .int 1, .int 2, .int 1, .int 3]) hp
            refine ⟨g, _, c, _, rfl, D3.bag, .inl ⟨p, _, rfl, .inl (SqL.of upd_same), D12.bag.ne_new hp, by decide, by decide, fun v H4 hv D4 => ?_⟩⟩
            have D34 := D3.trans D4
            have t14 : Tr H4 v1 d1 := t1.keep (((Tk.refl _).new hp).trans D4.tk)
            obtain ⟨j, hj, rfl⟩ : ∃ j : Nat, j ≤ 3 ∧ v = .int j := by
              simp only [List.mem_cons, List.not_mem_nil, or_false] at hv
              rcases hv with rfl | rfl | rfl | rfl | rfl
              · exact ⟨0, by decide, rfl⟩
              · exact ⟨1, by decide, rfl⟩
              · exact ⟨2, by decide, rfl⟩
              · exact ⟨1, by decide, rfl⟩
              · exact ⟨3, by decide, rfl⟩
            refine ⟨_, rfl, by omega, by omega, fun L hL => ?_⟩
            refine lc_range (lo := 0) (n := ((j : Int)).toNat) (fun i H' => ∃ vs ds e', vs.length = i ∧ TrAll H' vs ds ∧ (∀ d ∈ ds, Ex n d) ∧ H' L = some (.lst vs) ∧ Drawn g H4 H' c e')
              ⟨[], [], _, rfl, .nil, by simp, upd_same, (Drawn.of D34.bag).put D34.bag hL⟩ ?_ ?_
            · rintro i H' hi ⟨vs, ds, e', hl, ht, hx, hd, Dw⟩
              have nb := D34.bag.ne_new hL
              refine ⟨rfl, ?_⟩
              walk_at "rd"
              refine sub _ _ _ (D34.trans Dw) fun v5 d5 H5 e5 x5 t5 D5 => ?_
              have hd5 := D5.keep nb hd
              refine ⟨_, hd5, by rw [hl]; exact Nat.lt_of_lt_of_le (show i < 100 by omega) (by decide), vs ++ [v5], ds ++ [d5], e5, by rw [List.length_append, hl] <;> rfl, ?_, ?_, upd_same, (Dw.trans D5).put D34.bag hL⟩
              · exact ((ht.keep D5.tk).app (.one t5)).keep (tk_lst hd5)
              · intro d hd
                rcases List.mem_append.mp hd with q | q
                · exact hx d q
                · rw [List.mem_singleton.mp q]
                  exact x5
            · rintro H5 ⟨vs, ds, e5, hl, ht, hx, hd, D5⟩
              have lds : ds.length ≤ 3 := by
                rw [← ht.len, hl]
                omega
              refine ⟨_, _, rfl, .inl ⟨SqL.of hd, fun q hq => ?_⟩⟩
              have D6 := (D34.trans D5).new (o := .tup vs) hq
              have tq : Tr (upd H5 q (.tup vs)) (.ref q) (.tuple ds) := trs ht hq
              have t16 : Tr (upd H5 q (.tup vs)) v1 d1 := t14.keep (D5.tk.new hq)
              have hq6 : (upd H5 q (.tup vs)) q = some (.tup vs) := upd_same
              have htq : TrAll (upd H5 q (.tup vs)) vs ds := ht.keep ((Tk.refl _).new hq)
              generalize upd H5 q (.tup vs) = H6 at D6 tq t16 hq6 htq ⊢
              walk_at "rd"
              refine ite2 (fun h5 => ?_) (fun h5 => ?_)
              · walk_at "rd"
                refine ⟨by show 3 ≤ sizeLine; decide, fun q2 hq2 => ?_⟩
                exact k _ _ _ _ (.call x1 lds hx) (tr3 (.str _) t16 tq hq2) (D6.new hq2)
              · walk_at "rd"
                refine ite2 (fun h6 => ?_) (fun h6 => ?_)
                · walk_at "rd"
                  refine ⟨g, 2, c, _, rfl, D6.bag, by decide, by decide, fun r2 H7 r20 r21 D7 => ?_⟩
                  have D67 := D6.trans D7
                  have t17 := t16.keep D7.tk
                  walk_at "rd"
                  refine ite2 (fun h7 => ?_) (fun h7 => ?_)
                  · walk_at "rd"
                    refine ⟨g, c, _, rfl, D67.bag, fun z2 H8 hz2 D8 => ⟨by show 3 ≤ sizeLine; decide, fun q2 hq2 => ?_⟩⟩
                    exact k _ _ _ _ (.field x1 hz2) (tr3 (.str _) (t17.keep D8.tk) (.str z2) hq2) ((D67.trans D8).new hq2)
                  · walk_at "rd"
                    refine sub _ _ _ D67 fun v8 d8 H8 e8 x8 t8 D8 => ⟨by show 3 ≤ sizeLine; decide, fun q2 hq2 => ?_⟩
                    exact k _ _ _ _ (.index x1 x8) (tr3 (.str _) (t17.keep D8.tk) t8 hq2) ((D67.trans D8).new hq2)
                · walk_at "rd"
                  refine ite2 (fun h7 => ?_) (fun h7 => ?_)
                  · walk_at "rd"
                    refine ⟨by show 2 ≤ sizeLine; decide, fun q2 hq2 => ?_⟩
                    exact k _ _ _ _ (.list lds hx) (tr2 (.str _) tq hq2) (D6.new hq2)
                  · walk_at "rd"
                    refine ite2 (fun h8 => ?_) (fun h8 => ?_)
                    · walk_at "rd"
                      refine ⟨⟨_, SqT.of hq6⟩, fun L2 hL2 => ?_⟩
                      have nb := D6.bag.ne_new hL2
                      refine lc_tup (K := K) (a := q) (xs := vs) (fun i H' => ∃ us ps e', us.length = i ∧ TrAll H' us ((ps : List (PyData × PyData)).map fun p => .tuple [p.1, p.2]) ∧ (∀ p ∈ ps, Ex n p.1) ∧ (∀ p ∈ ps, Ex n p.2) ∧ H' L2 = some (.lst us) ∧ Drawn g H6 H' c e')
                        ⟨[], [], _, rfl, .nil, by simp, by simp, upd_same, (Drawn.of D6.bag).put D6.bag hL2⟩ ?_ ?_ ?_
                      · rintro i H' hi ⟨us, ps, e', hl, ht, hx1, hx2, hd, Dw⟩
                        exact SqT.of (Dw.tk _ _ hq6)
                      · rintro i x H' hi ⟨us, ps, e', hl, ht, hx1, hx2, hd, Dw⟩
                        obtain ⟨d, hd6, tx⟩ := htq.get hi
                        have li : i < 3 := by
                          have := (List.getElem?_eq_some_iff.mp hd6).1
                          omega
                        refine ⟨rfl, ?_⟩
                        walk_at "rd"
                        refine sub _ _ _ (D6.trans Dw) fun v7 d7 H7 e7 x7 t7 D7 => ⟨by show 2 ≤ sizeLine; decide, fun q2 hq2 => ?_⟩
                        have tp := tr2 (tx.keep (Dw.tk.trans D7.tk)) t7 hq2
                        have hd7 := D7.keep nb hd
                        have hd8 := upd_some (u := .tup [x, v7]) hd7 hq2
                        refine ⟨_, hd8, by rw [hl]; exact Nat.lt_of_lt_of_le (show i < 100 by omega) (by decide), us ++ [.ref q2], ps ++ [(d, d7)], e7, by rw [List.length_append, hl] <;> rfl, ?_, ?_, ?_, upd_same, ((Dw.trans D7).new hq2).put D6.bag hL2⟩
                        · rw [List.map_append]
                          exact ((ht.keep (D7.tk.new hq2)).app (.one tp)).keep (tk_lst hd8)
                        · intro p hp
                          rcases List.mem_append.mp hp with h | h
                          · exact hx1 p h
                          · rw [List.mem_singleton.mp h]
                            exact hx d (List.mem_of_getElem? hd6)
                        · intro p hp
                          rcases List.mem_append.mp hp with h | h
                          · exact hx2 p h
                          · rw [List.mem_singleton.mp h]
                            exact x7
                      · rintro H7 ⟨us, ps, e7, hl, ht, hx1, hx2, hd, D7⟩
                        have lps : ps.length ≤ 3 := by
                          have := ht.len
                          rw [List.length_map, hl] at this
                          have l2 := htq.len
                          omega
                        refine ⟨_, _, rfl, .inl ⟨SqL.of hd, fun q3 hq3 => ⟨by show 2 ≤ sizeLine; decide, fun q2 hq2 => ?_⟩⟩⟩
                        exact k _ _ _ _ (.map lps hx1 hx2) (tr2 (.str _) (trs ht hq3) hq2) (((D6.trans D7).new hq3).new hq2)
                    · walk_at "rd"
                      refine ⟨g, c, _, rfl, D6.bag, fun v8 ns8 H8 hn8 hl8 t8 D8 => ⟨_, rfl, by show 3 ≤ sizeLine; decide, fun q2 hq2 => ?_⟩⟩
                      exact k _ _ _ _ (.fn hl8 hn8 x1) (tr3 (.str _) t8 (t16.keep D8.tk) hq2) ((D6.trans D8).new hq2)

/-- the level of an operator -/
def opLv (o : Str) : Int := match valV kd_OPERATORS (Sum.inr o : Key) with
  | some (V.int i) => i
  | _ => 0
def kindOf : PyData → Str
  | .tuple (.str k :: _) => k
  | _ => ""
def lvK (k : Str) : Int := if k = "not" then 3 else if k = "minus" then 7 else if k = "call" ∨ k = "index" ∨ k = "field" then 9 else 10
def opOf : List PyData → Int
  | .str o :: _ => opLv o
  | _ => 0
def lvl : PyData → Int
  | .tuple (.str k :: ds) => if k = "two" then opOf ds else lvK k
  | _ => 10
theorem lvK_get (k : Str) : (valV kd_LEVELS (Sum.inr k : Key)).getD (V.int 10) = .int (lvK k) := by
  by_cases h1 : k = "not"
  · subst h1
    decide +kernel
  by_cases h2 : k = "minus"
  · subst h2
    decide +kernel
  by_cases h3 : k = "call"
  · subst h3
    decide +kernel
  by_cases h4 : k = "index"
  · subst h4
    decide +kernel
  by_cases h5 : k = "field"
  · subst h5
    decide +kernel
  have e : ∀ x : Str, ¬ k = x → decide ((Sum.inr x : Key) = Sum.inr k) = false := fun x h => decide_eq_false fun q => h (Sum.inr.inj q).symm
  unfold valV kd_LEVELS lvK
  rw [if_neg h1, if_neg h2, if_neg (by rintro (h | h | h); exact h3 h; exact h4 h; exact h5 h)]
  simp only [List.find?_cons, e _ h1, e _ h2, e _ h3, e _ h4, e _ h5, List.find?_nil]
  rfl
theorem opLv_at : ∀ o ∈ signsL, valV kd_OPERATORS (Sum.inr o : Key) = some (.int (opLv o)) := by
  have h : signsL.all (fun o => decide (valV kd_OPERATORS (Sum.inr o : Key) = some (.int (opLv o)))) = true := by decide +kernel
  exact fun o ho => of_decide_eq_true (List.all_eq_true.mp h o ho)
/-- the words with which expressions begin -/
theorem leaf_kind {k w : Str} (h : Leaf k w) : k ∈ (["name", "number", "quote", "word", "raw"] : List Str) := by
  cases h <;> decide +kernel
/-- what stands at an expression's place -/
theorem tr_tup {H : Hp} {v : V} {k : Str} {ds : List PyData} (t : Tr H v (.tuple (.str k :: ds))) : ∃ a ys, v = .ref a ∧ H a = some (.tup (.str k :: ys)) ∧ TrAll H ys ds := by
  cases t with
  | tup h r =>
    cases r with
    | cons h1 r1 =>
      cases h1
      exact ⟨_, _, rfl, h, r1⟩
/-- an expression, by its first word -/
structure Form (n : Nat) (d : PyData) (k : Str) (ds : List PyData) : Prop where
  eq : d = .tuple (.str k :: ds)
  two : k = "two" → ∃ m o l r, n = m + 1 ∧ o ∈ signsL ∧ ds = [.str o, l, r] ∧ Ex m l ∧ Ex m r
  one : k = "not" ∨ k = "minus" → ∃ m a, n = m + 1 ∧ ds = [a] ∧ Ex m a
  head : k = "call" ∨ k = "index" ∨ k = "field" → ∃ m h r, n = m + 1 ∧ ds = h :: r ∧ Ex m h
theorem form_of {n : Nat} {d : PyData} (x : Ex n d) : ∃ k ds, Form n d k ds := by
  cases x with
  | leaf h =>
    rename_i k w
    have hk := leaf_kind h
    refine ⟨k, _, rfl, fun e => ?_, fun e => ?_, fun e => ?_⟩
    · subst e
      exact absurd hk (by decide +kernel)
    · rcases e with rfl | rfl
      · exact absurd hk (by decide +kernel)
      · exact absurd hk (by decide +kernel)
    · rcases e with rfl | rfl | rfl
      · exact absurd hk (by decide +kernel)
      · exact absurd hk (by decide +kernel)
      · exact absurd hk (by decide +kernel)
  | two ho hl hr => exact ⟨_, _, rfl, fun _ => ⟨_, _, _, _, rfl, ho, rfl, hl, hr⟩, fun e => absurd e (by decide +kernel), fun e => absurd e (by decide +kernel)⟩
  | not h => exact ⟨_, _, rfl, fun e => absurd e (by decide +kernel), fun _ => ⟨_, _, rfl, rfl, h⟩, fun e => absurd e (by decide +kernel)⟩
  | minus h => exact ⟨_, _, rfl, fun e => absurd e (by decide +kernel), fun _ => ⟨_, _, rfl, rfl, h⟩, fun e => absurd e (by decide +kernel)⟩
  | call h _ _ => exact ⟨_, _, rfl, fun e => absurd e (by decide +kernel), fun e => absurd e (by decide +kernel), fun _ => ⟨_, _, _, rfl, rfl, h⟩⟩
  | field h _ => exact ⟨_, _, rfl, fun e => absurd e (by decide +kernel), fun e => absurd e (by decide +kernel), fun _ => ⟨_, _, _, rfl, rfl, h⟩⟩
  | index h _ => exact ⟨_, _, rfl, fun e => absurd e (by decide +kernel), fun e => absurd e (by decide +kernel), fun _ => ⟨_, _, _, rfl, rfl, h⟩⟩
  | list _ _ => exact ⟨_, _, rfl, fun e => absurd e (by decide +kernel), fun e => absurd e (by decide +kernel), fun e => absurd e (by decide +kernel)⟩
  | map _ _ _ => exact ⟨_, _, rfl, fun e => absurd e (by decide +kernel), fun e => absurd e (by decide +kernel), fun e => absurd e (by decide +kernel)⟩
  | fn _ _ _ => exact ⟨_, _, rfl, fun e => absurd e (by decide +kernel), fun e => absurd e (by decide +kernel), fun e => absurd e (by decide +kernel)⟩

/-- of an expression, a value, and nothing else -/
def spOf (f : PyData → V) : Sp := fun vs H Q _ => ∃ (v : V) (d : PyData) (n : Nat), vs = [v] ∧ Ex n d ∧ Tr H v d ∧ ∀ H', Same H H' → Q (f d) H'
theorem c_p_level_of (T : Txt K mg w) : Cal P w K mg base 1 "level_of" (spOf fun d => .int (lvl d)) [] := by
  refine calOf T.d_p_level_of sc_p_level_of (fun vs H Q E h => ?_) (fun f cdv A outer s H vs Q E hr h => ?_)
  · obtain ⟨v, d, n, rfl, _⟩ := h
    rfl
  · obtain ⟨v, d, n, rfl, hx, ht, k⟩ := h
    obtain ⟨kd, ds, F⟩ := form_of hx
    obtain ⟨a_OPERATORS, m_OPERATORS, k_OPERATORS⟩ := T.k_OPERATORS
    obtain ⟨a_LEVELS, m_LEVELS, k_LEVELS⟩ := T.k_LEVELS
    have ed := F.eq
    subst ed
    obtain ⟨a, ys, rfl, ha, hy⟩ := tr_tup ht
    have k : ∀ H', Same H H' → Q (.int (if kd = "two" then opOf ds else lvK kd)) H' := k
    refine ⟨_,
      (pss_cons (ps_if (pt_cmpR op_eq (pe_ix ix_tup (pv 0) pe_int (fun _ _ => rfl)) pe_str (nomark _))
        (pss_one (ps_ret (pe_ix ix_kd (pe_gc (v := V.ref a_OPERATORS) rfl ⟨_, m_OPERATORS, rfl⟩) (pe_ix ix_tup (pv 0) pe_int (fun _ _ => rfl)) (fun _ _ => rfl))))
        pss_nil)
        (pss_one (ps_ret (pe_kget2 (pe_gc (v := V.ref a_LEVELS) rfl ⟨_, m_LEVELS, rfl⟩) (pe_ix ix_tup (pv 0) pe_int (fun _ _ => rfl)) pe_int (fun _ _ _ h => ⟨⟨_, _, rfl, k_LEVELS⟩, h⟩) ⟨rfl, rfl, rfl, rfl⟩))))
      , ?_⟩
    refine ⟨_, rfl, _, _, _, _, rfl, rfl, SqT.of ha, atI_nat (j := 0) rfl, rfl, _, rfl, ite2 (fun h => ?_) (fun h => ?_)⟩
    · have e : kd = "two" := V.str.inj (of_decide_eq_true h)
      obtain ⟨m, o, l, r, _, ho, rfl, _, _⟩ := F.two e
      cases hy with
      | cons h1 _ =>
        cases h1
        rw [if_pos e] at k
        exact ⟨_, rfl, _, _, _, _, rfl, rfl, SqT.of ha, atI_nat (j := 1) rfl, _, _, Sum.inr o, _, rfl, rfl, k_OPERATORS, opLv_at o ho, k _ (Same.refl _)⟩
    · have e : ¬ kd = "two" := fun e => h (decide_eq_true (congrArg V.str e))
      rw [if_neg e, ← lvK_get kd] at k
      exact ⟨_, rfl, _, _, _, _, rfl, rfl, SqT.of ha, atI_nat (j := 0) rfl, _, _, Sum.inr kd, rfl, rfl, k_LEVELS, k _ (Same.refl _)⟩

theorem in_yes {k : Str} {l : List Str} (h : inV (.str k) (l.map V.str) = true) : k ∈ l := by
  rw [inV_strs] at h
  exact of_decide_eq_true h
theorem in_no {k : Str} {l : List Str} (h : ¬ inV (.str k) (l.map V.str) = true) : k ∉ l := by
  rw [inV_strs] at h
  exact fun q => h (decide_eq_true q)
theorem mem2 {k a b : Str} : k ∈ [a, b] ↔ k = a ∨ k = b := by simp
theorem mem3 {k a b c : Str} : k ∈ [a, b, c] ↔ k = a ∨ k = b ∨ k = c := by simp
def pairD (p : Str × PyData) : PyData := .tuple [.str p.1, p.2]
/-- the sides, and what stands there -/
def opnds : PyData → List (Str × PyData)
  | .tuple (.str k :: ds) =>
    if k = "two" then (match ds with | [_, l, r] => [("left", l), ("right", r)] | _ => [])
    else if k = "not" ∨ k = "minus" then (match ds with | a :: _ => [("inside", a)] | _ => [])
    else if k = "call" ∨ k = "index" ∨ k = "field" then (match ds with | h :: _ => [("head", h)] | _ => [])
    else []
  | _ => []
def spOperands : Sp := fun vs H Q _ => ∃ (v : V) (d : PyData) (n : Nat), vs = [v] ∧ Ex n d ∧ Tr H v d ∧
  ∀ (v' : V) (H' : Hp), Same H H' → Tr H' v' (.tuple ((opnds d).map pairD)) → Q v' H'

theorem c_p_operands (T : Txt K mg w) : Cal P w K mg base 1 "operands" spOperands [] := by
  refine calOf T.d_p_operands sc_p_operands (fun vs H Q E h => ?_) (fun f cdv A outer s H vs Q E hr h => ?_)
  · obtain ⟨v, d, n, rfl, _⟩ := h
    rfl
  · obtain ⟨v, d, n, rfl, hx, ht, k⟩ := h
    obtain ⟨kd, ds, F⟩ := form_of hx
    have ed := F.eq
    subst ed
    obtain ⟨a, ys, rfl, ha, hy⟩ := tr_tup ht
    refine ⟨_,
      (pss_cons (ps_if (pt_cmpR op_eq (pe_ix ix_tup (pv 0) pe_int (fun _ _ => rfl)) pe_str (nomark _))
        (pss_one (ps_ret (pe_tup (pa_cons (pe_tup (pa_cons pe_str (pa_cons (pe_ix ix_tup (pv 0) pe_int (fun _ _ => rfl)) pa_nil))) (pa_cons (pe_tup (pa_cons pe_str (pa_cons (pe_ix ix_tup (pv 0) pe_int (fun _ _ => rfl)) pa_nil))) pa_nil)))))
        pss_nil)
        (pss_cons (ps_if (pt_cmpR op_in_seq (pe_ix ix_tup (pv 0) pe_int (fun _ _ => rfl)) (pe_tup (pa_cons pe_str (pa_cons pe_str pa_nil))) (by rfl))
        (pss_one (ps_ret (pe_tup (pa_cons (pe_tup (pa_cons pe_str (pa_cons (pe_ix ix_tup (pv 0) pe_int (fun _ _ => rfl)) pa_nil))) pa_nil))))
        pss_nil)
        (pss_cons (ps_if (pt_cmpR op_in_seq (pe_ix ix_tup (pv 0) pe_int (fun _ _ => rfl)) (pe_tup (pa_cons pe_str (pa_cons pe_str (pa_cons pe_str pa_nil)))) (by rfl))
        (pss_one (ps_ret (pe_tup (pa_cons (pe_tup (pa_cons pe_str (pa_cons (pe_ix ix_tup (pv 0) pe_int (fun _ _ => rfl)) pa_nil))) pa_nil))))
        pss_nil)
        (pss_one (ps_ret (pe_tup pa_nil))))))
      , ?_⟩
    refine ⟨_, rfl, _, _, _, _, rfl, rfl, SqT.of ha, atI_nat (j := 0) rfl, rfl, _, rfl, ite2 (fun h => ?_) (fun h => ?_)⟩
    · have e : kd = "two" := V.str.inj (of_decide_eq_true h)
      obtain ⟨m, o, l, r, _, ho, rfl, _, _⟩ := F.two e
      have eo : opnds (.tuple (.str kd :: [.str o, l, r])) = [(("left" : Str), l), (("right" : Str), r)] := if_pos e
      rw [eo] at k
      cases hy with
      | cons h1 hy =>
        cases hy with
        | cons h2 hy =>
          cases hy with
          | cons h3 hy =>
            cases hy
            refine ⟨_, rfl, _, _, _, _, rfl, rfl, SqT.of ha, atI_nat (j := 2) rfl, by show 2 ≤ sizeLine; decide, fun p hp => ?_⟩
            refine ⟨_, rfl, _, _, _, _, rfl, rfl, SqT.of (upd_some ha hp), atI_nat (j := 3) rfl, by show 2 ≤ sizeLine; decide, fun q hq => ⟨by show 2 ≤ sizeLine; decide, fun r hr => ?_⟩⟩
            exact k _ _ (((same_new hp).trans (same_new hq)).trans (same_new hr)) (tr2 ((tr2 (.str _) h2 hp).new hq) (tr2 (.str _) (h3.new hp) hq) hr)
    · have e : ¬ kd = "two" := fun e => h (decide_eq_true (congrArg V.str e))
      refine ⟨_, rfl, _, _, _, _, rfl, rfl, SqT.of ha, atI_nat (j := 0) rfl, by decide, fun p hp => ⟨p, _, rfl, .inr (SqT.of upd_same), rfl, strs_flat ["not", "minus"], _, rfl, ite2 (fun h => ?_) (fun h => ?_)⟩⟩
      · have e1 := mem2.mp (in_yes (l := ["not", "minus"]) h)
        obtain ⟨m, x, _, rfl, _⟩ := F.one e1
        have eo : opnds (.tuple (.str kd :: [x])) = [(("inside" : Str), x)] := (if_neg e).trans (if_pos e1)
        rw [eo] at k
        cases hy with
        | cons h1 hy =>
          cases hy
          have ha2 := upd_some (u := .tup [.str "not", .str "minus"]) ha hp
          refine ⟨_, rfl, _, _, _, _, rfl, rfl, SqT.of ha2, atI_nat (j := 1) rfl, by show 2 ≤ sizeLine; decide, fun q hq => ⟨by show 1 ≤ sizeLine; decide, fun r hr => ?_⟩⟩
          exact k _ _ (((same_new hp).trans (same_new hq)).trans (same_new hr)) (trs (.one (tr2 (.str _) (h1.new hp) hq)) hr)
      · have e1 : ¬ (kd = "not" ∨ kd = "minus") := fun q => in_no (l := ["not", "minus"]) h (mem2.mpr q)
        have ha2 := upd_some (u := .tup [.str "not", .str "minus"]) ha hp
        refine ⟨_, rfl, _, _, _, _, rfl, rfl, SqT.of ha2, atI_nat (j := 0) rfl, by decide, fun p2 hp2 => ⟨p2, _, rfl, .inr (SqT.of upd_same), rfl, strs_flat ["call", "index", "field"], _, rfl, ite2 (fun h => ?_) (fun h => ?_)⟩⟩
        · have e2 := mem3.mp (in_yes (l := ["call", "index", "field"]) h)
          obtain ⟨m, x, r, _, rfl, _⟩ := F.head e2
          have eo : opnds (.tuple (.str kd :: x :: r)) = [(("head" : Str), x)] := (if_neg e).trans ((if_neg e1).trans (if_pos e2))
          rw [eo] at k
          cases hy with
          | cons h1 hy =>
            have ha3 := upd_some (u := .tup [.str "call", .str "index", .str "field"]) ha2 hp2
            refine ⟨_, rfl, _, _, _, _, rfl, rfl, SqT.of ha3, atI_nat (j := 1) rfl, by show 2 ≤ sizeLine; decide, fun q hq => ⟨by show 1 ≤ sizeLine; decide, fun r hr => ?_⟩⟩
            exact k _ _ ((((same_new hp).trans (same_new hp2)).trans (same_new hq)).trans (same_new hr)) (trs (.one (tr2 (.str _) ((h1.new hp).new hp2) hq)) hr)
        · have e2 : ¬ (kd = "call" ∨ kd = "index" ∨ kd = "field") := fun q => in_no (l := ["call", "index", "field"]) h (mem3.mpr q)
          have eo : opnds (.tuple (.str kd :: ds)) = [] := (if_neg e).trans ((if_neg e1).trans (if_neg e2))
          rw [eo] at k
          refine ⟨by decide, fun q hq => ?_⟩
          exact k _ _ (((same_new hp).trans (same_new hp2)).trans (same_new hq)) (.tup upd_same .nil)

def ll (i : Int) : Int := match valV kd_LEAST_LEFT (Sum.inl i : Key) with
  | some (V.int j) => j
  | _ => 0
def rr (i : Int) : Int := match valV kd_LEAST_RIGHT (Sum.inl i : Key) with
  | some (V.int j) => j
  | _ => 0
theorem ll_at : ∀ o ∈ signsL, valV kd_LEAST_LEFT (Sum.inl (opLv o) : Key) = some (.int (ll (opLv o))) := by
  have h : signsL.all (fun o => decide (valV kd_LEAST_LEFT (Sum.inl (opLv o) : Key) = some (.int (ll (opLv o))))) = true := by decide +kernel
  exact fun o ho => of_decide_eq_true (List.all_eq_true.mp h o ho)
theorem rr_at : ∀ o ∈ signsL, valV kd_LEAST_RIGHT (Sum.inl (opLv o) : Key) = some (.int (rr (opLv o))) := by
  have h : signsL.all (fun o => decide (valV kd_LEAST_RIGHT (Sum.inl (opLv o) : Key) = some (.int (rr (opLv o))))) = true := by decide +kernel
  exact fun o ho => of_decide_eq_true (List.all_eq_true.mp h o ho)
def least (d : PyData) (s : Str) : Int := if s = "left" then ll (lvl d) else if s = "right" then rr (lvl d) else lvl d
/-- a side of an expression, and what stands there -/
theorem side_of {n : Nat} {d : PyData} {s : Str} {x : PyData} (hx : Ex n d) (h : (s, x) ∈ opnds d) :
    (∃ m, n = m + 1 ∧ Ex m x) ∧ (opnds d).filter (fun p => decide (p.1 = s)) = [(s, x)] ∧ (s = "left" ∨ s = "right" → ∃ o, o ∈ signsL ∧ lvl d = opLv o) := by
  obtain ⟨k, ds, F⟩ := form_of hx
  have ed := F.eq
  subst ed
  by_cases e : k = "two"
  · obtain ⟨m, o, l, r, hm, ho, rfl, hl, hr⟩ := F.two e
    have eo : opnds (.tuple (.str k :: [.str o, l, r])) = [(("left" : Str), l), (("right" : Str), r)] := if_pos e
    have el : lvl (.tuple (.str k :: [.str o, l, r])) = opLv o := if_pos e
    rw [eo] at h ⊢
    rcases List.mem_cons.mp h with q | q
    · cases q
      exact ⟨⟨m, hm, hl⟩, rfl, fun _ => ⟨o, ho, el⟩⟩
    · cases List.mem_singleton.mp q
      exact ⟨⟨m, hm, hr⟩, rfl, fun _ => ⟨o, ho, el⟩⟩
  by_cases e1 : k = "not" ∨ k = "minus"
  · obtain ⟨m, a, hm, rfl, ha⟩ := F.one e1
    have eo : opnds (.tuple (.str k :: [a])) = [(("inside" : Str), a)] := (if_neg e).trans (if_pos e1)
    rw [eo] at h ⊢
    cases List.mem_singleton.mp h
    exact ⟨⟨m, hm, ha⟩, rfl, fun q => absurd q (by decide +kernel)⟩
  by_cases e2 : k = "call" ∨ k = "index" ∨ k = "field"
  · obtain ⟨m, a, r, hm, rfl, ha⟩ := F.head e2
    have eo : opnds (.tuple (.str k :: a :: r)) = [(("head" : Str), a)] := (if_neg e).trans ((if_neg e1).trans (if_pos e2))
    rw [eo] at h ⊢
    cases List.mem_singleton.mp h
    exact ⟨⟨m, hm, ha⟩, rfl, fun q => absurd q (by decide +kernel)⟩
  have eo : opnds (.tuple (.str k :: ds)) = [] := (if_neg e).trans ((if_neg e1).trans (if_neg e2))
  rw [eo] at h
  cases h
def spLeast : Sp := fun vs H Q _ => ∃ (v : V) (d : PyData) (n : Nat) (s : Str) (x : PyData), vs = [v, .str s] ∧ Ex n d ∧ Tr H v d ∧ (s, x) ∈ opnds d ∧
  ∀ H', Same H H' → Q (.int (least d s)) H'
theorem c_p_least_level (T : Txt K mg w) (c_p_level_of : Cal P w K mg base 1 "level_of" (spOf fun d => .int (lvl d)) []) : Cal P w K mg base 2 "_least_level" spLeast [] := by
  refine calOf T.d_p_least_level sc_p_least_level (fun vs H Q E h => ?_) (fun f cdv A outer s H vs Q E hr h => ?_)
  · obtain ⟨v, d, n, s, x, rfl, _⟩ := h
    rfl
  · obtain ⟨v, d, n, s, x, rfl, hx, ht, hs, k⟩ := h
    obtain ⟨a_LEAST_LEFT, m_LEAST_LEFT, k_LEAST_LEFT⟩ := T.k_LEAST_LEFT
    obtain ⟨a_LEAST_RIGHT, m_LEAST_RIGHT, k_LEAST_RIGHT⟩ := T.k_LEAST_RIGHT
    obtain ⟨_, _, h3⟩ := side_of hx hs
    refine ⟨_,
      (pss_cons (ps_set (i := 2) sc_p_least_level.nd rfl (Or.inl rfl) (pe_c c_p_level_of hr (by first | decide | omega) rfl (pa_cons (pv 0) pa_nil)))
        (pss_cons (ps_if (pt_cmpR op_eq (pv 1) pe_str (nomark _))
        (pss_one (ps_ret (pe_ix ix_kd (pe_gc (v := V.ref a_LEAST_LEFT) rfl ⟨_, m_LEAST_LEFT, rfl⟩) (pv 2) (fun _ _ => rfl))))
        pss_nil)
        (pss_cons (ps_if (pt_cmpR op_eq (pv 1) pe_str (nomark _))
        (pss_one (ps_ret (pe_ix ix_kd (pe_gc (v := V.ref a_LEAST_RIGHT) rfl ⟨_, m_LEAST_RIGHT, rfl⟩) (pv 2) (fun _ _ => rfl))))
        pss_nil)
        (pss_one (ps_ret (pv 2))))))
      , ?_⟩
    refine ⟨_, rfl, v, d, n, rfl, hx, ht, fun H1 s1 => ?_⟩
    walk_at "rd"
    refine ite2 (fun h => ?_) (fun h => ?_)
    · have e : s = "left" := V.str.inj (of_decide_eq_true h)
      obtain ⟨o, ho, el⟩ := h3 (.inl e)
      have ek : least d s = ll (opLv o) := by
        unfold least
        rw [if_pos e, el]
      rw [ek] at k
      refine ⟨_, rfl, _, _, Sum.inl (lvl d), _, rfl, rfl, k_LEAST_LEFT, ?_, k H1 s1⟩
      rw [el]
      exact ll_at o ho
    · have e : ¬ s = "left" := fun e => h (decide_eq_true (congrArg V.str e))
      walk_at "rd"
      refine ite2 (fun h => ?_) (fun h => ?_)
      · have e2 : s = "right" := V.str.inj (of_decide_eq_true h)
        obtain ⟨o, ho, el⟩ := h3 (.inr e2)
        have ek : least d s = rr (opLv o) := by
          unfold least
          rw [if_neg e, if_pos e2, el]
        rw [ek] at k
        refine ⟨_, rfl, _, _, Sum.inl (lvl d), _, rfl, rfl, k_LEAST_RIGHT, ?_, k H1 s1⟩
        rw [el]
        exact rr_at o ho
      · have e2 : ¬ s = "right" := fun e => h (decide_eq_true (congrArg V.str e))
        have ek : least d s = lvl d := by
          unfold least
          rw [if_neg e, if_neg e2]
        rw [ek] at k
        exact ⟨_, rfl, k H1 s1⟩

def spOpAt : Sp := fun vs H Q _ => ∃ (v : V) (d : PyData) (n : Nat) (s : Str) (x : PyData), vs = [v, .str s] ∧ Ex n d ∧ Tr H v d ∧ (s, x) ∈ opnds d ∧
  ∀ v' H', Same H H' → Tr H' v' x → Q v' H'
theorem pairs_len {n : Nat} {d : PyData} (hx : Ex n d) : (opnds d).length ≤ 2 := by
  obtain ⟨k, ds, F⟩ := form_of hx
  have ed := F.eq
  subst ed
  by_cases e : k = "two"
  · obtain ⟨m, o, l, r, hm, ho, rfl, hl, hr⟩ := F.two e
    have eo : opnds (.tuple (.str k :: [.str o, l, r])) = [(("left" : Str), l), (("right" : Str), r)] := if_pos e
    rw [eo]
    exact Nat.le_refl _
  by_cases e1 : k = "not" ∨ k = "minus"
  · obtain ⟨m, a, hm, rfl, ha⟩ := F.one e1
    have eo : opnds (.tuple (.str k :: [a])) = [(("inside" : Str), a)] := (if_neg e).trans (if_pos e1)
    rw [eo]
    exact Nat.le_succ _
  by_cases e2 : k = "call" ∨ k = "index" ∨ k = "field"
  · obtain ⟨m, a, r, hm, rfl, ha⟩ := F.head e2
    have eo : opnds (.tuple (.str k :: a :: r)) = [(("head" : Str), a)] := (if_neg e).trans ((if_neg e1).trans (if_pos e2))
    rw [eo]
    exact Nat.le_succ _
  have eo : opnds (.tuple (.str k :: ds)) = [] := (if_neg e).trans ((if_neg e1).trans (if_neg e2))
  rw [eo]
  exact Nat.zero_le _
theorem c_p_operand_at (T : Txt K mg w) (c_p_operands : Cal P w K mg base 1 "operands" spOperands []) : Cal P w K mg base 2 "operand_at" spOpAt [] := by
  refine calOf T.d_p_operand_at sc_p_operand_at (fun vs H Q E h => ?_) (fun f cdv A outer s H vs Q E hr h => ?_)
  · obtain ⟨v, d, n, s, x, rfl, _⟩ := h
    rfl
  · obtain ⟨v, d, n, s, x, rfl, hx, ht, hs, k⟩ := h
    obtain ⟨_, hf, _⟩ := side_of hx hs
    have hlen := pairs_len hx
    refine ⟨_,
      (pss_one (ps_ret (pe_ix ix_list (pe_lc (own := [("place", 2), ("operand", 3)]) (g := gTup K 2 (gCons (gName 2) (gCons (gName 3) gNil))) rfl sc_p_operand_at.nd (pi_tup (pe_c c_p_operands hr (by first | decide | omega) rfl (pa_cons (pv 0) pa_nil))) (blkOk_by (N := ["expression", "side", "place", "operand"]) (sc := defScope s_p_operand_at) (by decide +kernel)) (fun _ _ _ _ _ => (pg_tup rfl (pgs_cons (pg_name (i := 2) sc_p_operand_at.nd rfl (Or.inl rfl)) (pgs_cons (pg_name (i := 3) sc_p_operand_at.nd rfl (Or.inl rfl)) pgs_nil)))) (fun _ _ _ _ _ => (pts_one (pt_cmpR op_eq (pv 2) (pv 1) (nomark _)))) (fun _ _ _ _ _ => (pv 3))) pe_int (fun _ _ => rfl))))
      , ?_⟩
    refine ⟨_, rfl, v, d, n, rfl, hx, ht, fun v1 H1 s1 t1 => ?_⟩
    generalize ep : (opnds d).map pairD = pd at t1
    cases t1 with
    | tup h1 r1 =>
      rename_i a1 xs1
      refine ⟨a1, rfl, ⟨_, SqT.of h1⟩, fun D hD => ?_⟩
      refine lc_tup (K := K) (a := a1) (xs := xs1) (fun i H' => ∃ us, H' D = some (.lst us) ∧ us.length ≤ i ∧ TrAll H' us ((((opnds d).take i).filter (fun p => decide (p.1 = s))).map (·.2)) ∧ Same H1 H')
        ⟨[], upd_same, Nat.le_refl _, .nil, same_put (Same.refl _) hD⟩ ?_ ?_ ?_
      · rintro i H' _ ⟨us, hd, hl, hu, s2⟩
        exact SqT.of (s2 _ _ h1)
      · rintro i y H' hi ⟨us, hd, hl, hu, s2⟩
        obtain ⟨dy, hdy, ty⟩ := r1.get hi
        rw [← ep, List.getElem?_map] at hdy
        obtain ⟨⟨s', x'⟩, hp, rfl⟩ := Option.map_eq_some_iff.mp hdy
        have li : i < (opnds d).length := (List.getElem?_eq_some_iff.mp hp).1
        have ty := ty.keep (Tk.of s2)
        cases ty with
        | tup h2 r2 =>
          cases r2 with
          | cons p1 r2 =>
            cases p1
            cases r2 with
            | cons p2 r2 =>
              cases r2
              refine ⟨_, _, rfl, SqT.of h2, rfl, _, _, rfl, _, _, rfl, rfl, rfl, _, rfl, _, rfl, rfl, _, rfl, ?_⟩
              have et : (opnds d).take (i + 1) = (opnds d).take i ++ [(s', x')] := by
                rw [List.take_add_one, hp]
                rfl
              refine ite2 (fun h => ?_) (fun h => ?_)
              · have e : s' = s := V.str.inj (of_decide_eq_true h)
                refine ⟨_, rfl, us, hd, Nat.lt_of_le_of_lt hl (Nat.lt_of_lt_of_le (show i < 100 by omega) (by decide)), us ++ [_], upd_same, by rw [List.length_append]; exact Nat.succ_le_succ hl, ?_, same_put s2 hD⟩
                rw [et, List.filter_append, List.map_append]
                have ef : [(s', x')].filter (fun p => decide (p.1 = s)) = [(s', x')] := by
                  rw [List.filter_cons, if_pos (decide_eq_true e), List.filter_nil]
                rw [ef]
                exact (hu.app (.one p2)).keep (tk_lst hd)
              · have e : ¬ s' = s := fun e => h (decide_eq_true (congrArg V.str e))
                refine ⟨us, hd, Nat.le_succ_of_le hl, ?_, s2⟩
                rw [et, List.filter_append, List.map_append]
                have ef : [(s', x')].filter (fun p => decide (p.1 = s)) = [] := by
                  rw [List.filter_cons, if_neg (fun q => e (of_decide_eq_true q)), List.filter_nil]
                rw [ef, List.map_nil, List.append_nil]
                exact hu
      · rintro H2 ⟨us, hd, hl, hu, s2⟩
        have el : xs1.length = (opnds d).length := by
          rw [r1.len, ← ep, List.length_map]
        rw [el, List.take_length, hf] at hu
        cases hu with
        | cons q1 q2 =>
          exact ⟨_, _, _, _, rfl, rfl, SqL.of hd, atI_nat (j := 0) rfl, k _ H2 (s1.trans s2) q1⟩

/-- what stands at a side wants brackets -/
def wantsB (d : PyData) (s : Str) (x : PyData) : Bool := decide (lvl x < least d s)
def spWants : Sp := fun vs H Q _ => ∃ (v : V) (d : PyData) (n : Nat) (s : Str) (x : PyData), vs = [v, .str s] ∧ Ex n d ∧ Tr H v d ∧ (s, x) ∈ opnds d ∧
  ∀ H', Same H H' → Q (.bl (wantsB d s x)) H'
theorem c_p_wants_brackets (T : Txt K mg w) (c_p_level_of : Cal P w K mg base 1 "level_of" (spOf fun d => .int (lvl d)) []) (c_p_least_level : Cal P w K mg base 2 "_least_level" spLeast [])
    (c_p_operand_at : Cal P w K mg base 2 "operand_at" spOpAt []) : Cal P w K mg base 3 "wants_brackets" spWants [] := by
  refine calOf T.d_p_wants_brackets sc_p_wants_brackets (fun vs H Q E h => ?_) (fun f cdv A outer s H vs Q E hr h => ?_)
  · obtain ⟨v, d, n, s, x, rfl, _⟩ := h
    rfl
  · obtain ⟨v, d, n, s, x, rfl, hx, ht, hs, k⟩ := h
    obtain ⟨⟨m, hm, hxx⟩, _, _⟩ := side_of hx hs
    refine ⟨_,
      (pss_one (ps_ret (pe_cmpR op_lt (pe_c c_p_level_of hr (by first | decide | omega) rfl (pa_cons (pe_c c_p_operand_at hr (by first | decide | omega) rfl (pa_cons (pv 0) (pa_cons (pv 1) pa_nil))) pa_nil)) (pe_c c_p_least_level hr (by first | decide | omega) rfl (pa_cons (pv 0) (pa_cons (pv 1) pa_nil))) (nomark _))))
      , ?_⟩
    refine ⟨_, rfl, _, rfl, v, d, n, s, x, rfl, hx, ht, hs, fun v1 H1 s1 t1 => ⟨v1, x, m, rfl, hxx, t1, fun H2 s2 => ⟨_, rfl, _, rfl, v, d, n, s, x, rfl, hx, ht.keep (Tk.of (s1.trans s2)), hs, fun H3 s3 => ?_⟩⟩⟩
    exact ⟨_, _, rfl, rfl, k H3 ((s1.trans s2).trans s3)⟩
/-- whether an expression ends in fn -/
def endF : Nat → PyData → Bool
  | 0, d => decide (kindOf d = "fn")
  | n + 1, d => if kindOf d = "two" ∨ kindOf d = "not" ∨ kindOf d = "minus" then
      (match (opnds d).getLast? with
        | some (s, x) => if wantsB d s x = true then false else endF n x
        | none => false)
    else decide (kindOf d = "fn")
/-- the last side of a two, of a not, of a minus -/
theorem last_side {n : Nat} {d : PyData} {k : Str} {ds : List PyData} (F : Form n d k ds) (h : k = "two" ∨ k = "not" ∨ k = "minus") :
    ∃ m s x, n = m + 1 ∧ Ex m x ∧ (opnds d).getLast? = some (s, x) ∧ (s, x) ∈ opnds d ∧ s = (if k = "two" then "right" else "inside" : String) := by
  have ed := F.eq
  subst ed
  by_cases e : k = "two"
  · obtain ⟨m, o, l, r, hm, ho, rfl, hl, hr⟩ := F.two e
    have eo : opnds (.tuple (.str k :: [.str o, l, r])) = [(("left" : Str), l), (("right" : Str), r)] := if_pos e
    rw [eo, if_pos e]
    exact ⟨m, _, r, hm, hr, rfl, List.mem_cons_of_mem _ (List.mem_singleton.mpr rfl), rfl⟩
  · have e1 : k = "not" ∨ k = "minus" := h.resolve_left e
    obtain ⟨m, a, hm, rfl, ha⟩ := F.one e1
    have eo : opnds (.tuple (.str k :: [a])) = [(("inside" : Str), a)] := (if_neg e).trans (if_pos e1)
    rw [eo, if_neg e]
    exact ⟨m, _, a, hm, ha, rfl, List.mem_singleton.mpr rfl, rfl⟩
def spEnds (f : Nat → PyData → V) : Sp := fun vs H Q _ => ∃ (v : V) (d : PyData) (n : Nat), vs = [v] ∧ Ex n d ∧ Tr H v d ∧ ∀ H', Same H H' → Q (f n d) H'
theorem c_p_ends_in_fn (T : Txt K mg w) (c_p_wants_brackets : Cal P w K mg base 3 "wants_brackets" spWants [])
    (c_p_operand_at : Cal P w K mg base 2 "operand_at" spOpAt []) : Cal P w K mg base 4 "ends_in_fn" (spEnds fun n d => .bl (endF n d)) [] := by
  refine calOf T.d_p_ends_in_fn sc_p_ends_in_fn (fun vs H Q E h => ?_) (fun f cdv A outer s H vs Q E hr h => ?_)
  · obtain ⟨v, d, n, rfl, _⟩ := h
    rfl
  · obtain ⟨v0, d0, n0, rfl, hx0, ht0, k⟩ := h
    have k : ∀ H', Same H H' → Q (.bl (endF n0 d0)) H' := k
    refine ⟨_,
      (pss_cons (ps_set (i := 1) sc_p_ends_in_fn.nd rfl (Or.inl rfl) (pv 0))
        (pss_cons (ps_while PassesOwn.never (pt_cmpR op_in_seq (pe_ix ix_tup (pv 1) pe_int (fun _ _ => rfl)) (pe_tup (pa_cons pe_str (pa_cons pe_str (pa_cons pe_str pa_nil)))) (by rfl))
        (Evl.pss_cut (ps_set (i := 2) sc_p_ends_in_fn.nd rfl (Or.inl rfl) (pe_ifExp (pt_cmpR op_eq (pe_ix ix_tup (pv 1) pe_int (fun _ _ => rfl)) pe_str (nomark _)) pe_str pe_str))
        (pss_cons (ps_if (pt_val (pe_c c_p_wants_brackets hr (by first | decide | omega) rfl (pa_cons (pv 1) (pa_cons (pv 2) pa_nil))))
        (pss_one (ps_ret pe_bl))
        pss_nil)
        (pss_one (ps_set (i := 1) sc_p_ends_in_fn.nd rfl (Or.inl rfl) (pe_c c_p_operand_at hr (by first | decide | omega) rfl (pa_cons (pv 1) (pa_cons (pv 2) pa_nil))))))))
        (pss_one (ps_ret (pe_cmpR op_eq (pe_ix ix_tup (pv 1) pe_int (fun _ _ => rfl)) pe_str (nomark _))))))
      , ?_⟩
    refine ⟨_, rfl, ?_⟩
    refine ⟨fun j σ H' => ∃ v d sd, σ = [some v0, some v, sd] ∧ Ex j d ∧ Tr H' v d ∧ Same H H' ∧ endF j d = endF n0 d0, ⟨n0, v0, d0, none, rfl, hx0, ht0, Same.refl _, rfl⟩, ?_⟩
    rintro j σ H' ⟨v, d, sd, rfl, hx, ht, s1, he⟩
    obtain ⟨kd, ds, F⟩ := form_of hx
    have ed := F.eq
    subst ed
    obtain ⟨a, ys, rfl, ha, hy⟩ := tr_tup ht
    refine ⟨_, rfl, _, _, _, _, rfl, rfl, SqT.of ha, atI_nat (j := 0) rfl, by decide, fun p hp => ⟨p, _, rfl, .inr (SqT.of upd_same), rfl, strs_flat ["two", "not", "minus"], _, rfl, ite2 (fun h => ?_) (fun h => ?_)⟩⟩
    · have e1 := mem3.mp (in_yes (l := ["two", "not", "minus"]) h)
      obtain ⟨m, sd', x, rfl, hxx, hl, hmem, es⟩ := last_side F e1
      have ht1 := ht.new (o := .tup [.str "two", .str "not", .str "minus"]) hp
      have s2 := s1.trans (same_new (o := .tup [.str "two", .str "not", .str "minus"]) hp)
      have ef : endF (m + 1) (.tuple (.str kd :: ds)) = if wantsB (.tuple (.str kd :: ds)) sd' x = true then false else endF m x := by
        show (if kd = "two" ∨ kd = "not" ∨ kd = "minus" then _ else _) = _
        rw [if_pos e1, hl]
      rw [ef] at he
      refine ⟨fun σ' H2 => ∃ v d sd, σ' = [some v0, some v, sd] ∧ Ex m d ∧ Tr H2 v d ∧ Same H H2 ∧ endF m d = endF n0 d0, fun σ' H2 q => ⟨m, Nat.lt_succ_self m, q⟩, ?_⟩
      refine ⟨fun σ' H2 => σ' = [some v0, some (.ref a), some (.str sd')] ∧ Same (upd H' p (.tup [.str "two", .str "not", .str "minus"])) H2, ?_, ?_⟩
      · refine ⟨_, rfl, _, _, _, _, rfl, rfl, SqT.of (upd_some ha hp), atI_nat (j := 0) rfl, rfl, _, rfl, ite2 (fun h => ?_) (fun h => ?_)⟩
        · have e : kd = "two" := V.str.inj (of_decide_eq_true h)
          rw [if_pos e] at es
          exact ⟨by rw [es] <;> rfl, Same.refl _⟩
        · have e : ¬ kd = "two" := fun e => h (decide_eq_true (congrArg V.str e))
          rw [if_neg e] at es
          exact ⟨by rw [es] <;> rfl, Same.refl _⟩
      · rintro σ' H3 ⟨rfl, s3⟩
        have ht3 := ht1.keep (Tk.of s3)
        have s23 := s2.trans s3
        refine ⟨_, rfl, _, rfl, _, _, _, sd', x, rfl, hx, ht3, hmem, fun H4 s4 => ?_⟩
        refine ⟨_, rfl, ?_⟩
        cases hw : wantsB (.tuple (.str kd :: ds)) sd' x with
        | true =>
          rw [hw, if_pos rfl] at he
          refine iteT ?_
          have k := k H4 (s23.trans s4)
          rw [← he] at k
          exact k
        | false =>
          rw [hw, if_neg Bool.false_ne_true] at he
          refine iteF ?_
          refine ⟨_, rfl, _, rfl, _, _, _, sd', x, rfl, hx, ht3.keep (Tk.of s4), hmem, fun v5 H5 s5 t5 => ?_⟩
          exact ⟨v5, x, _, rfl, hxx, t5, (s23.trans s4).trans s5, he⟩
    · have e1 : ¬ (kd = "two" ∨ kd = "not" ∨ kd = "minus") := fun q => in_no (l := ["two", "not", "minus"]) h (mem3.mpr q)
      have ef : endF j (.tuple (.str kd :: ds)) = decide (kd = "fn") := by
        cases j with
        | zero => rfl
        | succ j => exact if_neg e1
      refine ⟨_, rfl, _, _, _, _, rfl, rfl, SqT.of (upd_some ha hp), atI_nat (j := 0) rfl, rfl, ?_⟩
      have k := k _ (s1.trans (same_new (o := .tup [.str "two", .str "not", .str "minus"]) hp))
      rw [← he, ef] at k
      have e : decide (V.str kd = V.str "fn") = decide (kd = "fn") := by
        by_cases q : kd = "fn"
        · rw [decide_eq_true q, decide_eq_true (congrArg V.str q)]
        · rw [decide_eq_false q, decide_eq_false fun z => q (V.str.inj z)]
      rw [e]
      exact k

mutual
/-- how many tuples -/
def nd : PyData → Nat
  | .tuple xs => ndAll xs + 1
  | .list xs => ndAll xs
  | _ => 0
def ndAll : List PyData → Nat
  | [] => 0
  | x :: r => nd x + ndAll r
end
def WB : Nat → Nat
  | 0 => 250
  | n + 1 => 6 * WB n + 400
def NB : Nat → Nat
  | 0 => 1
  | n + 1 => 6 * NB n + 5
structure Nice (n : Nat) (d : PyData) : Prop where
  tm : tame d = true
  dp : d.depth ≤ 3 * n + 1
  sz : wt d ≤ WB n
  no : nd d ≤ NB n
structure NiceAll (n c : Nat) (ds : List PyData) : Prop where
  tm : tameAll ds = true
  dp : PyData.depthAll ds ≤ 3 * n + 1
  sz : wtAll ds ≤ c * (WB n + 2)
  no : ndAll ds ≤ c * NB n
theorem niceAll_of {n : Nat} : ∀ {ds : List PyData}, (∀ d ∈ ds, Nice n d) → NiceAll n ds.length ds
  | [], _ => ⟨rfl, Nat.zero_le _, Nat.zero_le _, Nat.zero_le _⟩
  | d :: r, h => by
    have a := h d (List.mem_cons_self ..)
    have b := niceAll_of (ds := r) fun x hx => h x (List.mem_cons_of_mem _ hx)
    refine ⟨?_, ?_, ?_, ?_⟩
    · show (tame d && tameAll r) = true
      rw [a.tm, b.tm] <;> rfl
    · exact Nat.max_le.mpr ⟨a.dp, b.dp⟩
    · show wt d + 2 + wtAll r ≤ (r.length + 1) * (WB n + 2)
      have := a.sz
      have := b.sz
      rw [Nat.succ_mul]
      omega
    · show nd d + ndAll r ≤ (r.length + 1) * NB n
      have := a.no
      have := b.no
      rw [Nat.succ_mul]
      omega
def niceStr (l : Nat) (s : Str) : Bool := s.cps.all (· < 0x110000) && decide (s.length ≤ l)
theorem leaf_nice {k w : Str} (h : Leaf k w) : niceStr 6 k = true ∧ niceStr 13 w = true := by
  cases h with
  | name q =>
    refine ⟨by decide +kernel, ?_⟩
    unfold niceStr
    rw [Bool.and_eq_true]
    refine ⟨?_, decide_eq_true (Nat.le_trans q.size (by decide))⟩
    rw [← Array.all_toList, List.all_eq_true]
    intro c hc
    have f := q.form
    cases e : w.cps.toList with
    | nil =>
      rw [e] at hc
      cases hc
    | cons c0 r =>
      rw [e] at f hc
      have f' : (isLetter c0 && r.all fun d => isLetter d || isDigit d) = true := f
      rw [Bool.and_eq_true, List.all_eq_true] at f'
      have low : ∀ x, (isLetter x || isDigit x) = true → x < 0x110000 := fun x hx => by
        unfold isLetter isDigit at hx
        simp only [Bool.or_eq_true, Bool.and_eq_true, decide_eq_true_eq] at hx
        omega
      rcases List.mem_cons.mp hc with rfl | hc
      · exact decide_eq_true (low _ (by rw [f'.1] <;> rfl))
      · exact decide_eq_true (low _ (f'.2 c hc))
  | number q =>
    have h : numbersL.all (niceStr 13) = true := by decide +kernel
    exact ⟨by decide +kernel, List.all_eq_true.mp h w q⟩
  | quote q =>
    have h : quotesL.all (niceStr 13) = true := by decide +kernel
    exact ⟨by decide +kernel, List.all_eq_true.mp h w q⟩
  | word q =>
    have h : constsL.all (niceStr 13) = true := by decide +kernel
    exact ⟨by decide +kernel, List.all_eq_true.mp h w q⟩
  | raw q =>
    have h : rawsL.all (niceStr 13) = true := by decide +kernel
    exact ⟨by decide +kernel, List.all_eq_true.mp h w q⟩
theorem name_nice {w : Str} (h : NameOk w) : niceStr 13 w = true := (leaf_nice (.name h)).2
theorem nice_str {l : Nat} {s : Str} (h : niceStr l s = true) : tame (.str s) = true ∧ wt (.str s) ≤ 10 * l + 2 := by
  unfold niceStr at h
  rw [Bool.and_eq_true] at h
  have h2 := of_decide_eq_true h.2
  exact ⟨h.1, by show 10 * s.length + 2 ≤ 10 * l + 2; omega⟩
theorem WB_le (n : Nat) : 250 ≤ WB n := by
  cases n with
  | zero => exact Nat.le_refl _
  | succ n =>
    show 250 ≤ 6 * WB n + 400
    omega
theorem NB_le (n : Nat) : 1 ≤ NB n := by
  cases n with
  | zero => exact Nat.le_refl _
  | succ n =>
    show 1 ≤ 6 * NB n + 5
    omega

theorem t2 {a b : PyData} (ha : tame a = true) (hb : tame b = true) : tame (.tuple [a, b]) = true := by
  show (tame a && (tame b && true)) = true
  rw [ha, hb] <;> rfl
theorem t3 {a b c : PyData} (ha : tame a = true) (hb : tame b = true) (hc : tame c = true) : tame (.tuple [a, b, c]) = true := by
  show (tame a && (tame b && (tame c && true))) = true
  rw [ha, hb, hc] <;> rfl
theorem t4 {a b c d : PyData} (ha : tame a = true) (hb : tame b = true) (hc : tame c = true) (hd : tame d = true) : tame (.tuple [a, b, c, d]) = true := by
  show (tame a && (tame b && (tame c && (tame d && true)))) = true
  rw [ha, hb, hc, hd] <;> rfl
theorem dp2 (a b : PyData) : (PyData.tuple [a, b]).depth = max a.depth (max b.depth 0) + 1 := rfl
theorem dp3 (a b c : PyData) : (PyData.tuple [a, b, c]).depth = max a.depth (max b.depth (max c.depth 0)) + 1 := rfl
theorem dp4 (a b c d : PyData) : (PyData.tuple [a, b, c, d]).depth = max a.depth (max b.depth (max c.depth (max d.depth 0))) + 1 := rfl
theorem wt2 (a b : PyData) : wt (.tuple [a, b]) = wt a + 2 + (wt b + 2 + 0) + 4 := rfl
theorem wt3 (a b c : PyData) : wt (.tuple [a, b, c]) = wt a + 2 + (wt b + 2 + (wt c + 2 + 0)) + 4 := rfl
theorem wt4 (a b c d : PyData) : wt (.tuple [a, b, c, d]) = wt a + 2 + (wt b + 2 + (wt c + 2 + (wt d + 2 + 0))) + 4 := rfl
theorem nd2 (a b : PyData) : nd (.tuple [a, b]) = nd a + (nd b + 0) + 1 := rfl
theorem nd3 (a b c : PyData) : nd (.tuple [a, b, c]) = nd a + (nd b + (nd c + 0)) + 1 := rfl
theorem nd4 (a b c d : PyData) : nd (.tuple [a, b, c, d]) = nd a + (nd b + (nd c + (nd d + 0))) + 1 := rfl
theorem dps (s : Str) : (PyData.str s).depth = 0 := rfl
theorem nds (s : Str) : nd (.str s) = 0 := rfl
theorem strs_ok : ∀ {ns : List Str}, (∀ z ∈ ns, NameOk z) → tameAll (ns.map PyData.str) = true ∧ PyData.depthAll (ns.map PyData.str) = 0 ∧ wtAll (ns.map PyData.str) ≤ ns.length * 134 ∧ ndAll (ns.map PyData.str) = 0
  | [], _ => ⟨rfl, rfl, Nat.zero_le _, rfl⟩
  | z :: r, h => by
    obtain ⟨a1, a2⟩ := nice_str (name_nice (h z (List.mem_cons_self ..)))
    obtain ⟨b1, b2, b3, b4⟩ := strs_ok (ns := r) fun x hx => h x (List.mem_cons_of_mem _ hx)
    refine ⟨?_, ?_, ?_, ?_⟩
    · show (tame (.str z) && tameAll (r.map PyData.str)) = true
      rw [a1, b1] <;> rfl
    · show max 0 (PyData.depthAll (r.map PyData.str)) = 0
      rw [b2] <;> rfl
    · show wt (.str z) + 2 + wtAll (r.map PyData.str) ≤ (r.length + 1) * 134
      omega
    · show 0 + ndAll (r.map PyData.str) = 0
      rw [b4]
theorem maps_ok {n : Nat} : ∀ {ps : List (PyData × PyData)}, (∀ p ∈ ps, Nice n p.1) → (∀ p ∈ ps, Nice n p.2) →
    tameAll (ps.map fun p => .tuple [p.1, p.2]) = true ∧ PyData.depthAll (ps.map fun p => .tuple [p.1, p.2]) ≤ 3 * n + 2 ∧ wtAll (ps.map fun p => .tuple [p.1, p.2]) ≤ ps.length * (2 * WB n + 10) ∧ ndAll (ps.map fun p => .tuple [p.1, p.2]) ≤ ps.length * (2 * NB n + 1)
  | [], _, _ => ⟨rfl, Nat.zero_le _, Nat.zero_le _, Nat.zero_le _⟩
  | p :: r, h1, h2 => by
    have a := h1 p (List.mem_cons_self ..)
    have b := h2 p (List.mem_cons_self ..)
    obtain ⟨c1, c2, c3, c4⟩ := maps_ok (ps := r) (fun x hx => h1 x (List.mem_cons_of_mem _ hx)) fun x hx => h2 x (List.mem_cons_of_mem _ hx)
    have a2 := a.dp
    have b2 := b.dp
    have a3 := a.sz
    have b3 := b.sz
    have a4 := a.no
    have b4 := b.no
    refine ⟨?_, ?_, ?_, ?_⟩
    · show (tame (.tuple [p.1, p.2]) && tameAll (r.map fun p => .tuple [p.1, p.2])) = true
      rw [t2 a.tm b.tm, c1] <;> rfl
    · show max (PyData.tuple [p.1, p.2]).depth (PyData.depthAll (r.map fun p => .tuple [p.1, p.2])) ≤ 3 * n + 2
      rw [dp2]
      omega
    · show wt (.tuple [p.1, p.2]) + 2 + wtAll (r.map fun p => .tuple [p.1, p.2]) ≤ (r.length + 1) * (2 * WB n + 10)
      rw [wt2, Nat.succ_mul]
      omega
    · show nd (.tuple [p.1, p.2]) + ndAll (r.map fun p => .tuple [p.1, p.2]) ≤ (r.length + 1) * (2 * NB n + 1)
      rw [nd2, Nat.succ_mul]
      omega
theorem ex_nice {n : Nat} {d : PyData} (h : Ex n d) : Nice n d := by
  have kw : ∀ s ∈ (["two", "not", "minus", "call", "field", "index", "list", "map", "fn"] : List Str), niceStr 6 s = true := by
    have h : (["two", "not", "minus", "call", "field", "index", "list", "map", "fn"] : List Str).all (niceStr 6) = true := by decide +kernel
    exact fun s hs => List.all_eq_true.mp h s hs
  have sg : ∀ s ∈ signsL, niceStr 3 s = true := by
    have h : signsL.all (niceStr 3) = true := by decide +kernel
    exact fun s hs => List.all_eq_true.mp h s hs
  have mul3 : ∀ {c x : Nat}, c ≤ 3 → c * x ≤ 3 * x := fun h => Nat.mul_le_mul_right _ h
  induction h with
  | leaf h =>
    rename_i n k w
    obtain ⟨h1, h2⟩ := leaf_nice h
    obtain ⟨a1, a2⟩ := nice_str h1
    obtain ⟨b1, b2⟩ := nice_str h2
    have := WB_le n
    have := NB_le n
    refine ⟨t2 a1 b1, ?_, ?_, ?_⟩
    · rw [dp2, dps, dps]
      omega
    · rw [wt2]
      omega
    · rw [nd2, nds, nds]
      omega
  | two ho _ _ il ir =>
    rename_i n o l r _ _
    obtain ⟨a1, a2⟩ := nice_str (kw "two" (by decide))
    obtain ⟨b1, b2⟩ := nice_str (sg o ho)
    have := il.dp
    have := ir.dp
    have := il.sz
    have := ir.sz
    have := il.no
    have := ir.no
    refine ⟨t4 a1 b1 il.tm ir.tm, ?_, ?_, ?_⟩
    · rw [dp4, dps, dps]
      omega
    · rw [wt4]
      show _ ≤ 6 * WB n + 400
      omega
    · rw [nd4, nds, nds]
      show _ ≤ 6 * NB n + 5
      omega
  | not _ ia =>
    rename_i n a _
    obtain ⟨a1, a2⟩ := nice_str (kw "not" (by decide))
    have := ia.dp
    have := ia.sz
    have := ia.no
    refine ⟨t2 a1 ia.tm, ?_, ?_, ?_⟩
    · rw [dp2, dps]
      omega
    · rw [wt2]
      show _ ≤ 6 * WB n + 400
      omega
    · rw [nd2, nds]
      show _ ≤ 6 * NB n + 5
      omega
  | minus _ ia =>
    rename_i n a _
    obtain ⟨a1, a2⟩ := nice_str (kw "minus" (by decide))
    have := ia.dp
    have := ia.sz
    have := ia.no
    refine ⟨t2 a1 ia.tm, ?_, ?_, ?_⟩
    · rw [dp2, dps]
      omega
    · rw [wt2]
      show _ ≤ 6 * WB n + 400
      omega
    · rw [nd2, nds]
      show _ ≤ 6 * NB n + 5
      omega
  | call _ hl _ ih id =>
    rename_i n h ds _ _
    obtain ⟨a1, a2⟩ := nice_str (kw "call" (by decide))
    have b := niceAll_of id
    have := ih.dp
    have := ih.sz
    have := ih.no
    have := b.dp
    have := b.sz
    have := b.no
    have := mul3 (x := WB n + 2) hl
    have := mul3 (x := NB n) hl
    refine ⟨t3 a1 ih.tm b.tm, ?_, ?_, ?_⟩
    · rw [dp3, dps]
      show max 0 (max h.depth (max (PyData.depthAll ds + 1) 0)) + 1 ≤ _
      omega
    · rw [wt3]
      show _ + 2 + (wt h + 2 + (wtAll ds + 4 + 2 + 0)) + 4 ≤ 6 * WB n + 400
      omega
    · rw [nd3, nds]
      show 0 + (nd h + (ndAll ds + 1 + 0)) + 1 ≤ 6 * NB n + 5
      omega
  | field _ hz ih =>
    rename_i n h z _
    obtain ⟨a1, a2⟩ := nice_str (kw "field" (by decide))
    obtain ⟨b1, b2⟩ := nice_str (name_nice hz)
    have := ih.dp
    have := ih.sz
    have := ih.no
    refine ⟨t3 a1 ih.tm b1, ?_, ?_, ?_⟩
    · rw [dp3, dps, dps]
      omega
    · rw [wt3]
      show _ ≤ 6 * WB n + 400
      omega
    · rw [nd3, nds, nds]
      show _ ≤ 6 * NB n + 5
      omega
  | index _ _ il ir =>
    rename_i n l r _ _
    obtain ⟨a1, a2⟩ := nice_str (kw "index" (by decide))
    have := il.dp
    have := ir.dp
    have := il.sz
    have := ir.sz
    have := il.no
    have := ir.no
    refine ⟨t3 a1 il.tm ir.tm, ?_, ?_, ?_⟩
    · rw [dp3, dps]
      omega
    · rw [wt3]
      show _ ≤ 6 * WB n + 400
      omega
    · rw [nd3, nds]
      show _ ≤ 6 * NB n + 5
      omega
  | list hl _ id =>
    rename_i n ds _
    obtain ⟨a1, a2⟩ := nice_str (kw "list" (by decide))
    have b := niceAll_of id
    have := b.dp
    have := b.sz
    have := b.no
    have := mul3 (x := WB n + 2) hl
    have := mul3 (x := NB n) hl
    refine ⟨t2 a1 b.tm, ?_, ?_, ?_⟩
    · rw [dp2, dps]
      show max 0 (max (PyData.depthAll ds + 1) 0) + 1 ≤ _
      omega
    · rw [wt2]
      show _ + 2 + (wtAll ds + 4 + 2 + 0) + 4 ≤ 6 * WB n + 400
      omega
    · rw [nd2, nds]
      show 0 + (ndAll ds + 1 + 0) + 1 ≤ 6 * NB n + 5
      omega
  | map hl _ _ i1 i2 =>
    rename_i n ps _ _
    obtain ⟨a1, a2⟩ := nice_str (kw "map" (by decide))
    obtain ⟨c1, c2, c3, c4⟩ := maps_ok i1 i2
    have := mul3 (x := 2 * WB n + 10) hl
    have := mul3 (x := 2 * NB n + 1) hl
    refine ⟨t2 a1 c1, ?_, ?_, ?_⟩
    · rw [dp2, dps]
      show max 0 (max (PyData.depthAll (ps.map fun p => .tuple [p.1, p.2]) + 1) 0) + 1 ≤ _
      omega
    · rw [wt2]
      show _ + 2 + (wtAll (ps.map fun p => .tuple [p.1, p.2]) + 4 + 2 + 0) + 4 ≤ 6 * WB n + 400
      omega
    · rw [nd2, nds]
      show 0 + (ndAll (ps.map fun p => .tuple [p.1, p.2]) + 1 + 0) + 1 ≤ 6 * NB n + 5
      omega
  | fn hl hn _ ib =>
    rename_i n ns b _
    obtain ⟨a1, a2⟩ := nice_str (kw "fn" (by decide))
    obtain ⟨c1, c2, c3, c4⟩ := strs_ok hn
    have := ib.dp
    have := ib.sz
    have := ib.no
    have := Nat.mul_le_mul_right 134 hl
    refine ⟨t3 a1 c1 ib.tm, ?_, ?_, ?_⟩
    · rw [dp3, dps]
      show max 0 (max (PyData.depthAll (ns.map PyData.str) + 1) (max b.depth 0)) + 1 ≤ _
      omega
    · rw [wt3]
      show _ + 2 + (wtAll (ns.map PyData.str) + 4 + 2 + (wt b + 2 + 0)) + 4 ≤ 6 * WB n + 400
      omega
    · rw [nd3, nds]
      show 0 + (ndAll (ns.map PyData.str) + 1 + (nd b + 0)) + 1 ≤ 6 * NB n + 5
      omega

def rowsL : List (List Str) := [["or"], ["and"], [], ["==", "!=", "<", "<=", ">", ">="], ["+", "-"], ["*", "/"], [], ["^"]]
def hitsL (o : Str) (i : Nat) : List Nat := (List.range i).filter fun j => decide (o ∈ rowsL.getD j [])
theorem hits_all : ∀ o ∈ signsL, (hitsL o 8).map (fun j : Nat => V.int (j : Int)) = [.int (opLv o - 1)] := by
  have h : signsL.all (fun o => decide ((hitsL o 8).map (fun j : Nat => V.int (j : Int)) = [.int (opLv o - 1)])) = true := by decide +kernel
  exact fun o ho => of_decide_eq_true (List.all_eq_true.mp h o ho)
theorem hits_succ (o : Str) (i : Nat) : hitsL o (i + 1) = hitsL o i ++ (if o ∈ rowsL.getD i [] then [i] else []) := by
  unfold hitsL
  rw [List.range_succ, List.filter_append, List.filter_cons, List.filter_nil]
  by_cases h : o ∈ rowsL.getD i []
  · rw [if_pos h, if_pos (decide_eq_true h)]
  · rw [if_neg h, if_neg (fun q => h (of_decide_eq_true q))]
theorem rows_step {H0 H : Hp} {ps : List Addr} {p : Addr} (l : List Str) (A : Same H0 H ∧ ∀ i r, ps[i]? = some r → H r = some (.lst ((rowsL.getD i []).map V.str))) (h : H p = none) (e : rowsL.getD ps.length [] = l) :
    Same H0 (upd H p (.lst (l.map V.str))) ∧ ∀ i r, (ps ++ [p])[i]? = some r → upd H p (.lst (l.map V.str)) r = some (.lst ((rowsL.getD i []).map V.str)) := by
  refine ⟨A.1.trans (same_new h), fun i r hi => ?_⟩
  by_cases q : i < ps.length
  · rw [List.getElem?_append_left q] at hi
    exact upd_some (A.2 i r hi) h
  · rw [List.getElem?_append_right (by omega)] at hi
    have q2 : i - ps.length = 0 := by
      cases e : i - ps.length with
      | zero => rfl
      | succ x =>
        rw [e] at hi
        simp at hi
    rw [q2] at hi
    cases hi
    have q3 : i = ps.length := by omega
    rw [q3, e]
    exact upd_same
def spSign : Sp := fun vs H Q _ => ∃ o : Str, vs = [.str o] ∧ o ∈ signsL ∧ ∀ H', Same H H' → Q (.int (opLv o)) H'
theorem c_l_sign_level (T : Txt K mg w) : Cal P w K mg base 1 "_law_sign_level" spSign [] := by
  refine calOf T.d_l_sign_level sc_l_sign_level (fun vs H Q E h => ?_) (fun f cdv A outer s H vs Q E hr h => ?_)
  · obtain ⟨o, rfl, _⟩ := h
    rfl
  · obtain ⟨o, rfl, ho, k⟩ := h
    refine ⟨_,
      (pss_cons (ps_set (i := 1) sc_l_sign_level.nd rfl (Or.inl rfl) (pe_lst (pa_cons (pe_lst (pa_cons pe_str pa_nil)) (pa_cons (pe_lst (pa_cons pe_str pa_nil)) (pa_cons (pe_lst pa_nil) (pa_cons (pe_lst (pa_cons pe_str (pa_cons pe_str (pa_cons pe_str (pa_cons pe_str (pa_cons pe_str (pa_cons pe_str pa_nil))))))) (pa_cons (pe_lst (pa_cons pe_str (pa_cons pe_str pa_nil))) (pa_cons (pe_lst (pa_cons pe_str (pa_cons pe_str pa_nil))) (pa_cons (pe_lst pa_nil) (pa_cons (pe_lst (pa_cons pe_str pa_nil)) pa_nil))))))))))
        (pss_one (ps_ret (pe_op op_add (pe_ix ix_list (pe_lc (own := [("_law_at", 2), ("_law_row", 3)]) (g := gTup K 2 (gCons (gName 2) (gCons (gName 3) gNil))) rfl sc_l_sign_level.nd (pi_enum (by rfl) T.n_enumerate (pa_cons (pv 1) pa_nil)) (blkOk_by (N := ["_law_sign", "_law_rows", "_law_at", "_law_row"]) (sc := defScope s_l_sign_level) (by decide +kernel)) (fun _ _ _ _ _ => (pg_tup rfl (pgs_cons (pg_name (i := 2) sc_l_sign_level.nd rfl (Or.inl rfl)) (pgs_cons (pg_name (i := 3) sc_l_sign_level.nd rfl (Or.inl rfl)) pgs_nil)))) (fun _ _ _ _ _ => (pts_one (pt_cmpR (show OpR _ (compareOp .In) (rIn K false) from op_in_seq) (pv 0) (pv 3) (by rfl)))) (fun _ _ _ _ _ => (pv 2))) pe_int (fun _ _ => rfl)) pe_int))))
      , ?_⟩
    have A : Same H H ∧ ∀ i r, ([] : List Addr)[i]? = some r → H r = some (.lst ((rowsL.getD i []).map V.str)) := ⟨Same.refl _, fun i r h => by simp at h⟩
    refine ⟨by decide, fun p0 h => ?_⟩
    have A := rows_step (["or"] : List Str) A h rfl
    simp only [List.map_cons, List.map_nil, List.nil_append, List.cons_append] at A
    generalize upd _ p0 (HO.lst [.str "or"]) = H1 at A ⊢
    clear h
    refine ⟨by decide, fun p1 h => ?_⟩
    have A := rows_step (["and"] : List Str) A h rfl
    simp only [List.map_cons, List.map_nil, List.nil_append, List.cons_append] at A
    generalize upd _ p1 (HO.lst [.str "and"]) = H2 at A ⊢
    clear h
    refine ⟨by decide, fun p2 h => ?_⟩
    have A := rows_step ([] : List Str) A h rfl
    simp only [List.map_cons, List.map_nil, List.nil_append, List.cons_append] at A
    generalize upd _ p2 (HO.lst []) = H3 at A ⊢
    clear h
    refine ⟨by decide, fun p3 h => ?_⟩
    have A := rows_step (["==", "!=", "<", "<=", ">", ">="] : List Str) A h rfl
    simp only [List.map_cons, List.map_nil, List.nil_append, List.cons_append] at A
    generalize upd _ p3 (HO.lst [.str "==", .str "!=", .str "<", .str "<=", .str ">", .str ">="]) = H4 at A ⊢
    clear h
    refine ⟨by decide, fun p4 h => ?_⟩
    have A := rows_step (["+", "-"] : List Str) A h rfl
    simp only [List.map_cons, List.map_nil, List.nil_append, List.cons_append] at A
    generalize upd _ p4 (HO.lst [.str "+", .str "-"]) = H5 at A ⊢
    clear h
    refine ⟨by decide, fun p5 h => ?_⟩
    have A := rows_step (["*", "/"] : List Str) A h rfl
    simp only [List.map_cons, List.map_nil, List.nil_append, List.cons_append] at A
    generalize upd _ p5 (HO.lst [.str "*", .str "/"]) = H6 at A ⊢
    clear h
    refine ⟨by decide, fun p6 h => ?_⟩
    have A := rows_step ([] : List Str) A h rfl
    simp only [List.map_cons, List.map_nil, List.nil_append, List.cons_append] at A
    generalize upd _ p6 (HO.lst []) = H7 at A ⊢
    clear h
    refine ⟨by decide, fun p7 h => ?_⟩
    have A := rows_step (["^"] : List Str) A h rfl
    simp only [List.map_cons, List.map_nil, List.nil_append, List.cons_append] at A
    generalize upd _ p7 (HO.lst [.str "^"]) = H8 at A ⊢
    clear h
    refine ⟨by show 8 ≤ sizeLine; decide, fun R hR => ?_⟩
    obtain ⟨s8, A⟩ := A
    have sR := s8.trans (same_new (o := .lst [.ref p0, .ref p1, .ref p2, .ref p3, .ref p4, .ref p5, .ref p6, .ref p7]) hR)
    have aR : upd H8 R (.lst [.ref p0, .ref p1, .ref p2, .ref p3, .ref p4, .ref p5, .ref p6, .ref p7]) R = some (.lst ([p0, p1, p2, p3, p4, p5, p6, p7].map V.ref)) := upd_same
    have A := fun i r h => upd_some (u := .lst [.ref p0, .ref p1, .ref p2, .ref p3, .ref p4, .ref p5, .ref p6, .ref p7]) (A i r h) hR
    generalize upd H8 R (HO.lst [.ref p0, .ref p1, .ref p2, .ref p3, .ref p4, .ref p5, .ref p6, .ref p7]) = HR at sR aR A ⊢
    generalize eps : [p0, p1, p2, p3, p4, p5, p6, p7] = ps at A aR
    have lps : ps.length = 8 := by rw [← eps]; rfl
    refine ⟨_, rfl, R, ps.map V.ref, rfl, SqL.of aR, fun D hD => ?_⟩
    refine lc_it (walk_enum (K := K) (a := R) (xs := ps.map V.ref)) (fun i H' => H' D = some (.lst ((hitsL o i).map fun j : Nat => V.int (j : Int))) ∧ Same HR H') ⟨upd_same, same_put (Same.refl _) hD⟩ ?_ ?_ ?_
    · rintro i H' _ ⟨_, s2⟩
      exact SqL.of (s2 _ _ aR)
    · rintro i x H2 H3 hi ⟨hd, s2⟩ ⟨T, y, z, rfl, hT, rfl, hy, hz⟩
      cases hy
      have hz : (ps.map V.ref)[i]? = some z := hz
      rw [List.getElem?_map] at hz
      obtain ⟨r, hr2, rfl⟩ := Option.map_eq_some_iff.mp hz
      have ar := upd_some (u := .tup [.int (i : Nat), .ref r]) (s2 _ _ (A i r hr2)) hT
      have hd3 := upd_some (u := .tup [.int (i : Nat), .ref r]) hd hT
      have s3 := s2.trans (same_new (o := .tup [.int (i : Nat), .ref r]) hT)
      have lh : (hitsL o i).length ≤ i := by
        have := List.length_filter_le (fun j => decide (o ∈ rowsL.getD j [])) (List.range i)
        rw [List.length_range] at this
        exact this
      rw [List.length_map, lps] at hi
      refine ⟨T, _, rfl, SqT.of upd_same, rfl, _, _, rfl, _, _, rfl, rfl, rfl, _, rfl, _, rfl, r, _, rfl, .inl (SqL.of ar), rfl, strs_flat _, _, rfl, ite2 (fun h => ?_) (fun h => ?_)⟩
      · have hm : o ∈ rowsL.getD i [] := in_yes h
        refine ⟨_, rfl, _, hd3, by rw [List.length_map]; exact Nat.lt_of_le_of_lt lh (Nat.lt_of_lt_of_le hi (by decide)), ?_, same_put s3 hD⟩
        rw [hits_succ, if_pos hm, List.map_append]
        exact upd_same
      · have hm : o ∉ rowsL.getD i [] := in_no h
        refine ⟨?_, s3⟩
        rw [hits_succ, if_neg hm, List.append_nil]
        exact hd3
    · rintro H2 ⟨hd, s2⟩
      rw [List.length_map, lps, hits_all o ho] at hd
      refine ⟨_, _, _, _, rfl, rfl, SqL.of hd, atI_nat (j := 0) rfl, _, _, rfl, rfl, ?_⟩
      have e : opLv o - 1 + 1 = opLv o := by omega
      show Q (.int (opLv o - 1 + 1)) H2
      rw [e]
      exact k H2 (sR.trans s2)

theorem c_l_operands (T : Txt K mg w) : Cal P w K mg base 1 "_law_operands" spOperands [] := by
  refine calOf T.d_l_operands sc_l_operands (fun vs H Q E h => ?_) (fun f cdv A outer s H vs Q E hr h => ?_)
  · obtain ⟨v, d, n, rfl, _⟩ := h
    rfl
  · obtain ⟨v, d, n, rfl, hx, ht, k⟩ := h
    obtain ⟨kd, ds, F⟩ := form_of hx
    have ed := F.eq
    subst ed
    obtain ⟨a, ys, rfl, ha, hy⟩ := tr_tup ht
    refine ⟨_,
      (pss_cons (ps_if (pt_cmpR op_eq (pe_ix ix_tup (pv 0) pe_int (fun _ _ => rfl)) pe_str (nomark _))
        (pss_one (ps_ret (pe_tup (pa_cons (pe_tup (pa_cons pe_str (pa_cons (pe_ix ix_tup (pv 0) pe_int (fun _ _ => rfl)) pa_nil))) (pa_cons (pe_tup (pa_cons pe_str (pa_cons (pe_ix ix_tup (pv 0) pe_int (fun _ _ => rfl)) pa_nil))) pa_nil)))))
        pss_nil)
        (pss_cons (ps_if (pt_cmpR op_in_seq (pe_ix ix_tup (pv 0) pe_int (fun _ _ => rfl)) (pe_tup (pa_cons pe_str (pa_cons pe_str pa_nil))) (by rfl))
        (pss_one (ps_ret (pe_tup (pa_cons (pe_tup (pa_cons pe_str (pa_cons (pe_ix ix_tup (pv 0) pe_int (fun _ _ => rfl)) pa_nil))) pa_nil))))
        pss_nil)
        (pss_one (ps_ret (pe_ifExp (pt_cmpR op_in_seq (pe_ix ix_tup (pv 0) pe_int (fun _ _ => rfl)) (pe_tup (pa_cons pe_str (pa_cons pe_str (pa_cons pe_str pa_nil)))) (by rfl)) (pe_tup (pa_cons (pe_tup (pa_cons pe_str (pa_cons (pe_ix ix_tup (pv 0) pe_int (fun _ _ => rfl)) pa_nil))) pa_nil)) (pe_tup pa_nil))))))
      , ?_⟩
    refine ⟨_, rfl, _, _, _, _, rfl, rfl, SqT.of ha, atI_nat (j := 0) rfl, rfl, _, rfl, ite2 (fun h => ?_) (fun h => ?_)⟩
    · have e : kd = "two" := V.str.inj (of_decide_eq_true h)
      obtain ⟨m, o, l, r, _, ho, rfl, _, _⟩ := F.two e
      have eo : opnds (.tuple (.str kd :: [.str o, l, r])) = [(("left" : Str), l), (("right" : Str), r)] := if_pos e
      rw [eo] at k
      cases hy with
      | cons h1 hy =>
        cases hy with
        | cons h2 hy =>
          cases hy with
          | cons h3 hy =>
            cases hy
            refine ⟨_, rfl, _, _, _, _, rfl, rfl, SqT.of ha, atI_nat (j := 2) rfl, by show 2 ≤ sizeLine; decide, fun p hp => ?_⟩
            refine ⟨_, rfl, _, _, _, _, rfl, rfl, SqT.of (upd_some ha hp), atI_nat (j := 3) rfl, by show 2 ≤ sizeLine; decide, fun q hq => ⟨by show 2 ≤ sizeLine; decide, fun r hr => ?_⟩⟩
            exact k _ _ (((same_new hp).trans (same_new hq)).trans (same_new hr)) (tr2 ((tr2 (.str _) h2 hp).new hq) (tr2 (.str _) (h3.new hp) hq) hr)
    · have e : ¬ kd = "two" := fun e => h (decide_eq_true (congrArg V.str e))
      refine ⟨_, rfl, _, _, _, _, rfl, rfl, SqT.of ha, atI_nat (j := 0) rfl, by decide, fun p hp => ⟨p, _, rfl, .inr (SqT.of upd_same), rfl, strs_flat ["not", "minus"], _, rfl, ite2 (fun h => ?_) (fun h => ?_)⟩⟩
      · have e1 := mem2.mp (in_yes (l := ["not", "minus"]) h)
        obtain ⟨m, x, _, rfl, _⟩ := F.one e1
        have eo : opnds (.tuple (.str kd :: [x])) = [(("inside" : Str), x)] := (if_neg e).trans (if_pos e1)
        rw [eo] at k
        cases hy with
        | cons h1 hy =>
          cases hy
          have ha2 := upd_some (u := .tup [.str "not", .str "minus"]) ha hp
          refine ⟨_, rfl, _, _, _, _, rfl, rfl, SqT.of ha2, atI_nat (j := 1) rfl, by show 2 ≤ sizeLine; decide, fun q hq => ⟨by show 1 ≤ sizeLine; decide, fun r hr => ?_⟩⟩
          exact k _ _ (((same_new hp).trans (same_new hq)).trans (same_new hr)) (trs (.one (tr2 (.str _) (h1.new hp) hq)) hr)
      · have e1 : ¬ (kd = "not" ∨ kd = "minus") := fun q => in_no (l := ["not", "minus"]) h (mem2.mpr q)
        have ha2 := upd_some (u := .tup [.str "not", .str "minus"]) ha hp
        refine ⟨_, rfl, _, _, _, _, rfl, rfl, SqT.of ha2, atI_nat (j := 0) rfl, by decide, fun p2 hp2 => ⟨p2, _, rfl, .inr (SqT.of upd_same), rfl, strs_flat ["call", "index", "field"], _, rfl, ite2 (fun h => ?_) (fun h => ?_)⟩⟩
        · have e2 := mem3.mp (in_yes (l := ["call", "index", "field"]) h)
          obtain ⟨m, x, r, _, rfl, _⟩ := F.head e2
          have eo : opnds (.tuple (.str kd :: x :: r)) = [(("head" : Str), x)] := (if_neg e).trans ((if_neg e1).trans (if_pos e2))
          rw [eo] at k
          cases hy with
          | cons h1 hy =>
            have ha3 := upd_some (u := .tup [.str "call", .str "index", .str "field"]) ha2 hp2
            refine ⟨_, rfl, _, _, _, _, rfl, rfl, SqT.of ha3, atI_nat (j := 1) rfl, by show 2 ≤ sizeLine; decide, fun q hq => ⟨by show 1 ≤ sizeLine; decide, fun r hr => ?_⟩⟩
            exact k _ _ ((((same_new hp).trans (same_new hp2)).trans (same_new hq)).trans (same_new hr)) (trs (.one (tr2 (.str _) ((h1.new hp).new hp2) hq)) hr)
        · have e2 : ¬ (kd = "call" ∨ kd = "index" ∨ kd = "field") := fun q => in_no (l := ["call", "index", "field"]) h (mem3.mpr q)
          have eo : opnds (.tuple (.str kd :: ds)) = [] := (if_neg e).trans ((if_neg e1).trans (if_neg e2))
          rw [eo] at k
          refine ⟨by decide, fun q hq => ?_⟩
          exact k _ _ (((same_new hp).trans (same_new hp2)).trans (same_new hq)) (.tup upd_same .nil)

theorem sides4 : ∀ o ∈ signsL, (opLv o = 4 → ll (opLv o) = 5 ∧ rr (opLv o) = 5) ∧ (¬ opLv o = 4 → (opLv o = 8 → ll (opLv o) = 9 ∧ rr (opLv o) = 7) ∧ (¬ opLv o = 8 → ll (opLv o) = opLv o ∧ rr (opLv o) = opLv o + 1)) := by
  have h : signsL.all (fun o => decide ((opLv o = 4 → ll (opLv o) = 5 ∧ rr (opLv o) = 5) ∧ (¬ opLv o = 4 → (opLv o = 8 → ll (opLv o) = 9 ∧ rr (opLv o) = 7) ∧ (¬ opLv o = 8 → ll (opLv o) = opLv o ∧ rr (opLv o) = opLv o + 1)))) = true := by decide +kernel
  exact fun o ho => of_decide_eq_true (List.all_eq_true.mp h o ho)
def spSides : Sp := fun vs H Q _ => ∃ o : Str, vs = [.str o] ∧ o ∈ signsL ∧ ∀ p H', Same H H' → H' p = some (.tup [.int (ll (opLv o)), .int (rr (opLv o))]) → Q (.ref p) H'
theorem c_l_sides (T : Txt K mg w) (c_l_sign_level : Cal P w K mg base 1 "_law_sign_level" spSign []) : Cal P w K mg base 2 "_law_sides" spSides [] := by
  refine calOf T.d_l_sides sc_l_sides (fun vs H Q E h => ?_) (fun f cdv A outer s H vs Q E hr h => ?_)
  · obtain ⟨o, rfl, _⟩ := h
    rfl
  · obtain ⟨o, rfl, ho, k⟩ := h
    refine ⟨_,
      (pss_cons (ps_set (i := 1) sc_l_sides.nd rfl (Or.inl rfl) (pe_c c_l_sign_level hr (by first | decide | omega) rfl (pa_cons (pv 0) pa_nil)))
        (pss_cons (ps_if (pt_cmpR op_eq (pv 1) pe_int (nomark _))
        (pss_one (ps_ret (pe_tup (pa_cons pe_int (pa_cons pe_int pa_nil)))))
        pss_nil)
        (pss_one (ps_ret (pe_ifExp (pt_cmpR op_eq (pv 1) pe_int (nomark _)) (pe_tup (pa_cons pe_int (pa_cons pe_int pa_nil))) (pe_tup (pa_cons (pv 1) (pa_cons (pe_op op_add (pv 1) pe_int) pa_nil))))))))
      , ?_⟩
    obtain ⟨q1, q2⟩ := sides4 o ho
    refine ⟨_, rfl, o, rfl, ho, fun H1 s1 => ?_⟩
    walk_at "rd"
    refine ite2 (fun h => ?_) (fun h => ?_)
    · have e : opLv o = 4 := V.int.inj (of_decide_eq_true h)
      rw [(q1 e).1, (q1 e).2] at k
      exact ⟨by decide, fun p hp => k p _ (s1.trans (same_new hp)) upd_same⟩
    · have e : ¬ opLv o = 4 := fun e => h (decide_eq_true (congrArg V.int e))
      obtain ⟨q3, q4⟩ := q2 e
      walk_at "rd"
      refine ite2 (fun h => ?_) (fun h => ?_)
      · have e : opLv o = 8 := V.int.inj (of_decide_eq_true h)
        rw [(q3 e).1, (q3 e).2] at k
        exact ⟨by decide, fun p hp => k p _ (s1.trans (same_new hp)) upd_same⟩
      · have e : ¬ opLv o = 8 := fun e => h (decide_eq_true (congrArg V.int e))
        rw [(q4 e).1, (q4 e).2] at k
        walk_at "rd"
        exact ⟨by show 2 ≤ sizeLine; decide, fun p hp => k p _ (s1.trans (same_new hp)) upd_same⟩

theorem lvK_dict {k : Str} (h : ¬ (k = "call" ∨ k = "index" ∨ k = "field")) : (valV (mergeK [] [((Sum.inr "not" : Key), V.int 3), (Sum.inr "minus", V.int 7)]) (Sum.inr k : Key)).getD (V.int 10) = .int (lvK k) := by
  have em : mergeK [] [((Sum.inr "not" : Key), V.int 3), (Sum.inr "minus", V.int 7)] = [((Sum.inr "not" : Key), V.int 3), (Sum.inr "minus", V.int 7)] := by decide +kernel
  rw [em]
  by_cases h1 : k = "not"
  · subst h1
    decide +kernel
  by_cases h2 : k = "minus"
  · subst h2
    decide +kernel
  have e : ∀ x : Str, ¬ k = x → decide ((Sum.inr x : Key) = Sum.inr k) = false := fun x h => decide_eq_false fun q => h (Sum.inr.inj q).symm
  unfold valV lvK
  rw [if_neg h1, if_neg h2, if_neg h]
  simp only [List.find?_cons, e _ h1, e _ h2, List.find?_nil]
  rfl
theorem c_l_level (T : Txt K mg w) (c_l_sign_level : Cal P w K mg base 1 "_law_sign_level" spSign []) : Cal P w K mg base 2 "_law_level" (spOf fun d => .int (lvl d)) [] := by
  refine calOf T.d_l_level sc_l_level (fun vs H Q E h => ?_) (fun f cdv A outer s H vs Q E hr h => ?_)
  · obtain ⟨v, d, n, rfl, _⟩ := h
    rfl
  · obtain ⟨v, d, n, rfl, hx, ht, k⟩ := h
    have hu := hu_of hr
    obtain ⟨kd, ds, F⟩ := form_of hx
    have ed := F.eq
    subst ed
    obtain ⟨a, ys, rfl, ha, hy⟩ := tr_tup ht
    have k : ∀ H', Same H H' → Q (.int (if kd = "two" then opOf ds else lvK kd)) H' := k
    refine ⟨_,
      (pss_cons (ps_if (pt_cmpR op_eq (pe_ix ix_tup (pv 0) pe_int (fun _ _ => rfl)) pe_str (nomark _))
        (pss_one (ps_ret (pe_c c_l_sign_level hr (by first | decide | omega) rfl (pa_cons (pe_ix ix_tup (pv 0) pe_int (fun _ _ => rfl)) pa_nil))))
        pss_nil)
        (pss_cons (ps_if (pt_cmpR op_in_seq (pe_ix ix_tup (pv 0) pe_int (fun _ _ => rfl)) (pe_tup (pa_cons pe_str (pa_cons pe_str (pa_cons pe_str pa_nil)))) (by rfl))
        (pss_one (ps_ret pe_int))
        pss_nil)
        (pss_one (ps_ret (pe_dget2 hu (pe_disp (pps_cons pe_str pe_int (pps_cons pe_str pe_int pps_nil)) (by rfl) (by rfl) (fun z => by cases z) (by decide)) (pe_ix ix_tup (pv 0) pe_int (fun _ _ => rfl)) pe_int ⟨rfl, rfl, rfl, rfl⟩)))))
      , ?_⟩
    refine ⟨_, rfl, _, _, _, _, rfl, rfl, SqT.of ha, atI_nat (j := 0) rfl, rfl, _, rfl, ite2 (fun h => ?_) (fun h => ?_)⟩
    · have e : kd = "two" := V.str.inj (of_decide_eq_true h)
      obtain ⟨m, o, l, r, _, ho, rfl, _, _⟩ := F.two e
      cases hy with
      | cons h1 _ =>
        cases h1
        rw [if_pos e] at k
        exact ⟨_, rfl, _, _, _, _, rfl, rfl, SqT.of ha, atI_nat (j := 1) rfl, o, rfl, ho, fun H1 s1 => k H1 s1⟩
    · have e : ¬ kd = "two" := fun e => h (decide_eq_true (congrArg V.str e))
      rw [if_neg e] at k
      refine ⟨_, rfl, _, _, _, _, rfl, rfl, SqT.of ha, atI_nat (j := 0) rfl, by decide, fun p hp => ⟨p, _, rfl, .inr (SqT.of upd_same), rfl, strs_flat ["call", "index", "field"], _, rfl, ite2 (fun h => ?_) (fun h => ?_)⟩⟩
      · have e2 := mem3.mp (in_yes (l := ["call", "index", "field"]) h)
        have el : lvK kd = 9 := by
          rcases e2 with rfl | rfl | rfl <;> decide +kernel
        rw [el] at k
        exact k _ (same_new hp)
      · have e2 : ¬ (kd = "call" ∨ kd = "index" ∨ kd = "field") := fun q => in_no (l := ["call", "index", "field"]) h (mem3.mpr q)
        rw [← lvK_dict e2] at k
        intro d hd
        refine ⟨upd_same, [((Sum.inr "not" : Key), V.int 3), (Sum.inr "minus", V.int 7)], rfl, by decide, d, rfl, .inl ⟨_, .inl upd_same⟩, _, rfl, a, V.str kd :: ys, 0, V.str kd, rfl, rfl, SqT.of ?_, atI_nat (j := 0) rfl, _, DGet.k (k := Sum.inr kd) upd_same, ?_⟩
        · rw [upd_ne (ne_of_none (upd_some ha hp) hd)]
          exact upd_some (upd_some ha hp) hd
        · refine k _ (same_put ((same_new hp).trans (same_new hd)) (Same.free (same_new hp) hd))

def spWantsL : Sp := fun vs H Q _ => ∃ (v vx : V) (d : PyData) (n : Nat) (s : Str) (x : PyData), vs = [v, .str s, vx] ∧ Ex n d ∧ Tr H v d ∧ (s, x) ∈ opnds d ∧ Tr H vx x ∧
  ∀ H', Same H H' → Q (.bl (wantsB d s x)) H'
/-- a side by its first word -/
theorem side_form {n : Nat} {d : PyData} {k : Str} {ds : List PyData} {s : Str} {x : PyData} (F : Form n d k ds) (h : (s, x) ∈ opnds d) :
    (k = "two" → ∃ o l r, o ∈ signsL ∧ ds = [.str o, l, r] ∧ ((s = "left" ∧ x = l) ∨ (s = "right" ∧ x = r))) ∧ (¬ k = "two" → ¬ s = "left" ∧ ¬ s = "right") := by
  have ed := F.eq
  subst ed
  refine ⟨fun e => ?_, fun e => ?_⟩
  · obtain ⟨m, o, l, r, hm, ho, rfl, hl, hr⟩ := F.two e
    have eo : opnds (.tuple (.str k :: [.str o, l, r])) = [(("left" : Str), l), (("right" : Str), r)] := if_pos e
    rw [eo] at h
    refine ⟨o, l, r, ho, rfl, ?_⟩
    rcases List.mem_cons.mp h with q | q
    · cases q
      exact .inl ⟨rfl, rfl⟩
    · cases List.mem_singleton.mp q
      exact .inr ⟨rfl, rfl⟩
  · by_cases e1 : k = "not" ∨ k = "minus"
    · obtain ⟨m, a, hm, rfl, ha⟩ := F.one e1
      have eo : opnds (.tuple (.str k :: [a])) = [(("inside" : Str), a)] := (if_neg e).trans (if_pos e1)
      rw [eo] at h
      cases List.mem_singleton.mp h
      decide +kernel
    · by_cases e2 : k = "call" ∨ k = "index" ∨ k = "field"
      · obtain ⟨m, a, r, hm, rfl, ha⟩ := F.head e2
        have eo : opnds (.tuple (.str k :: a :: r)) = [(("head" : Str), a)] := (if_neg e).trans ((if_neg e1).trans (if_pos e2))
        rw [eo] at h
        cases List.mem_singleton.mp h
        decide +kernel
      · have eo : opnds (.tuple (.str k :: ds)) = [] := (if_neg e).trans ((if_neg e1).trans (if_neg e2))
        rw [eo] at h
        cases h
theorem wB_left (d x : PyData) : wantsB d "left" x = decide (lvl x < ll (lvl d)) := by
  unfold wantsB least
  rw [if_pos rfl]
theorem wB_right (d x : PyData) : wantsB d "right" x = decide (lvl x < rr (lvl d)) := by
  have e : ¬ (("right" : Str) = "left") := by decide +kernel
  unfold wantsB least
  rw [if_neg e, if_pos rfl]
theorem wB_inside (d x : PyData) : wantsB d "inside" x = decide (lvl x < lvl d) := by
  have e : ¬ (("inside" : Str) = "left") := by decide +kernel
  have e2 : ¬ (("inside" : Str) = "right") := by decide +kernel
  unfold wantsB least
  rw [if_neg e, if_neg e2]
theorem c_l_wants (T : Txt K mg w) (c_l_level : Cal P w K mg base 2 "_law_level" (spOf fun d => .int (lvl d)) []) (c_l_sides : Cal P w K mg base 2 "_law_sides" spSides []) : Cal P w K mg base 3 "_law_wants" spWantsL [] := by
  refine calOf T.d_l_wants sc_l_wants (fun vs H Q E h => ?_) (fun f cdv A outer s H vs Q E hr h => ?_)
  · obtain ⟨v, vx, d, n, s, x, rfl, _⟩ := h
    rfl
  · obtain ⟨v, vx, d, n, s, x, rfl, hx, ht, hs, htx, k⟩ := h
    have htr := ht
    obtain ⟨⟨m, hm, hxx⟩, _, _⟩ := side_of hx hs
    obtain ⟨kd, ds, F⟩ := form_of hx
    obtain ⟨f1, f2⟩ := side_form F hs
    have ed := F.eq
    subst ed
    obtain ⟨a, ys, rfl, ha, hy⟩ := tr_tup ht
    refine ⟨_,
      (pss_cons (ps_set (i := 3) sc_l_wants.nd rfl (Or.inl rfl) (pe_ifExp (pt_cmpR op_eq (pe_ix ix_tup (pv 0) pe_int (fun _ _ => rfl)) pe_str (nomark _)) (pe_ix ix_tup (pe_c c_l_sides hr (by first | decide | omega) rfl (pa_cons (pe_ix ix_tup (pv 0) pe_int (fun _ _ => rfl)) pa_nil)) (pe_callTy call_int1 (by rfl) T.n_int (by decide +kernel) (pa_cons (pe_cmpR op_eq (pv 1) pe_str (nomark _)) pa_nil)) (fun _ _ => rfl)) (pe_c c_l_level hr (by first | decide | omega) rfl (pa_cons (pv 0) pa_nil))))
        (pss_one (ps_ret (pe_cmpR op_lt (pe_c c_l_level hr (by first | decide | omega) rfl (pa_cons (pv 2) pa_nil)) (pv 3) (nomark _)))))
      , ?_⟩
    refine ⟨_, rfl, _, _, _, _, rfl, rfl, SqT.of ha, atI_nat (j := 0) rfl, rfl, _, rfl, ite2 (fun h => ?_) (fun h => ?_)⟩
    · have e : kd = "two" := V.str.inj (of_decide_eq_true h)
      obtain ⟨o, l, r, ho, rfl, hsd⟩ := f1 e
      have el : lvl (.tuple (.str kd :: [.str o, l, r])) = opLv o := if_pos e
      cases hy with
      | cons h1 hy =>
        cases h1
        refine ⟨_, rfl, _, _, _, _, rfl, rfl, SqT.of ha, atI_nat (j := 1) rfl, o, rfl, ho, fun p H1 s1 hp => ?_⟩
        have htx1 := htx.keep (Tk.of s1)
        rcases hsd with ⟨rfl, rfl⟩ | ⟨rfl, rfl⟩
        · have ew : wantsB (.tuple (.str kd :: [.str o, x, r])) "left" x = decide (lvl x < ll (opLv o)) := by
            rw [wB_left, el]
          refine ⟨_, rfl, rfl, .inr ⟨_, rfl, _, _, _, _, rfl, rfl, SqT.of hp, atI_nat (j := 0) rfl, _, rfl, _, _, _, rfl, hxx, htx1, fun H2 s2 => ⟨_, rfl, _, _, rfl, rfl, ?_⟩⟩⟩
          have k := k H2 (s1.trans s2)
          rw [ew] at k
          exact k
        · have ew : wantsB (.tuple (.str kd :: [.str o, l, x])) "right" x = decide (lvl x < rr (opLv o)) := by
            rw [wB_right, el]
          refine ⟨_, rfl, rfl, .inr ⟨_, rfl, _, _, _, _, rfl, rfl, SqT.of hp, atI_nat (j := 1) rfl, _, rfl, _, _, _, rfl, hxx, htx1, fun H2 s2 => ⟨_, rfl, _, _, rfl, rfl, ?_⟩⟩⟩
          have k := k H2 (s1.trans s2)
          rw [ew] at k
          exact k
    · have e : ¬ kd = "two" := fun e => h (decide_eq_true (congrArg V.str e))
      obtain ⟨n1, n2⟩ := f2 e
      have ew : wantsB (.tuple (.str kd :: ds)) s x = decide (lvl x < lvl (.tuple (.str kd :: ds))) := by
        unfold wantsB least
        rw [if_neg n1, if_neg n2]
      rw [ew] at k
      exact ⟨_, rfl, _, _, _, rfl, hx, htr, fun H1 s1 => ⟨_, rfl, _, _, _, rfl, hxx, htx.keep (Tk.of s1), fun H2 s2 => ⟨_, rfl, _, _, rfl, rfl, k H2 (s1.trans s2)⟩⟩⟩

def spEndsB (m : Nat) : Sp := fun vs H Q _ => ∃ (v : V) (d : PyData) (n : Nat), vs = [v] ∧ n < m ∧ Ex n d ∧ Tr H v d ∧ ∀ H', Same H H' → Q (.bl (endF n d)) H'
theorem fn_none (T : Txt K mg w) : Cal P w K mg base 3 "_law_has_fn_end" (spEndsB 0) [] := by
  refine calOf T.d_l_has_fn_end sc_l_has_fn_end (fun vs H Q E h => ?_) (fun f cdv A outer s H vs Q E hr h => ?_)
  · obtain ⟨v, d, n, rfl, h, _⟩ := h
    exact absurd h (Nat.not_lt_zero _)
  · obtain ⟨v, d, n, rfl, h, _⟩ := h
    exact absurd h (Nat.not_lt_zero _)
theorem c_l_has_fn_end (T : Txt K mg w) {m : Nat} (c_l_level : Cal P w K mg base 2 "_law_level" (spOf fun d => .int (lvl d)) []) (c_l_sides : Cal P w K mg base 2 "_law_sides" spSides [])
    (c_l_has_fn_end : Cal P w K mg base (3 + m) "_law_has_fn_end" (spEndsB m) []) : Cal P w K mg base (3 + m + 1) "_law_has_fn_end" (spEndsB (m + 1)) [] := by
  refine calOf T.d_l_has_fn_end sc_l_has_fn_end (fun vs H Q E h => ?_) (fun f cdv A outer s H vs Q E hr h => ?_)
  · obtain ⟨v, d, n, rfl, _⟩ := h
    rfl
  · obtain ⟨v, d, n, rfl, hn, hx, ht, k⟩ := h
    have htr := ht
    obtain ⟨kd, ds, F⟩ := form_of hx
    have ed := F.eq
    subst ed
    obtain ⟨a, ys, rfl, ha, hy⟩ := tr_tup ht
    refine ⟨_,
      (pss_cons (ps_if (pt_cmpR op_eq (pe_ix ix_tup (pv 0) pe_int (fun _ _ => rfl)) pe_str (nomark _))
        (pss_one (ps_ret pe_bl))
        pss_nil)
        (pss_cons (ps_if (pt_cmpR op_eq (pe_ix ix_tup (pv 0) pe_int (fun _ _ => rfl)) pe_str (nomark _))
        (pss_one (ps_ret (pe_and (pe_cmpR op_ge (pe_c c_l_level hr (by first | decide | omega) rfl (pa_cons (pe_ix ix_tup (pv 0) pe_int (fun _ _ => rfl)) pa_nil)) (pe_ix ix_tup (pe_c c_l_sides hr (by first | decide | omega) rfl (pa_cons (pe_ix ix_tup (pv 0) pe_int (fun _ _ => rfl)) pa_nil)) pe_int (fun _ _ => rfl)) (nomark _)) (pe_one (pe_c c_l_has_fn_end hr (by first | decide | omega) rfl (pa_cons (pe_ix ix_tup (pv 0) pe_int (fun _ _ => rfl)) pa_nil))))))
        pss_nil)
        (pss_cons (ps_if (pt_cmpR op_in_seq (pe_ix ix_tup (pv 0) pe_int (fun _ _ => rfl)) (pe_tup (pa_cons pe_str (pa_cons pe_str pa_nil))) (by rfl))
        (pss_one (ps_ret (pe_and (pe_cmpR op_ge (pe_c c_l_level hr (by first | decide | omega) rfl (pa_cons (pe_ix ix_tup (pv 0) pe_int (fun _ _ => rfl)) pa_nil)) (pe_c c_l_level hr (by first | decide | omega) rfl (pa_cons (pv 0) pa_nil)) (nomark _)) (pe_one (pe_c c_l_has_fn_end hr (by first | decide | omega) rfl (pa_cons (pe_ix ix_tup (pv 0) pe_int (fun _ _ => rfl)) pa_nil))))))
        pss_nil)
        (pss_one (ps_ret pe_bl)))))
      , ?_⟩
    refine ⟨_, rfl, _, _, _, _, rfl, rfl, SqT.of ha, atI_nat (j := 0) rfl, rfl, _, rfl, ite2 (fun h => ?_) (fun h => ?_)⟩
    · have e : kd = "fn" := V.str.inj (of_decide_eq_true h)
      have ef : endF n (.tuple (.str kd :: ds)) = true := by
        subst e
        cases n with
        | zero => exact decide_eq_true rfl
        | succ n => exact (if_neg (show ¬ (("fn" : Str) = "two" ∨ ("fn" : Str) = "not" ∨ ("fn" : Str) = "minus") by decide +kernel)).trans (decide_eq_true rfl)
      rw [ef] at k
      exact k H (Same.refl _)
    · have e0 : ¬ kd = "fn" := fun e => h (decide_eq_true (congrArg V.str e))
      refine ⟨_, rfl, _, _, _, _, rfl, rfl, SqT.of ha, atI_nat (j := 0) rfl, rfl, _, rfl, ite2 (fun h => ?_) (fun h => ?_)⟩
      · have e : kd = "two" := V.str.inj (of_decide_eq_true h)
        obtain ⟨j, o, l, r, rfl, ho, rfl, hl, hr'⟩ := F.two e
        have eo : opnds (.tuple (.str kd :: [.str o, l, r])) = [(("left" : Str), l), (("right" : Str), r)] := if_pos e
        have el : lvl (.tuple (.str kd :: [.str o, l, r])) = opLv o := if_pos e
        have ef : endF (j + 1) (.tuple (.str kd :: [.str o, l, r])) = if decide (lvl r < rr (opLv o)) = true then false else endF j r := by
          show (if kd = "two" ∨ kd = "not" ∨ kd = "minus" then (match (opnds (.tuple (.str kd :: [.str o, l, r]))).getLast? with | some (s, x) => if wantsB (.tuple (.str kd :: [.str o, l, r])) s x = true then false else endF j x | none => false) else _) = _
          rw [if_pos (.inl e), eo]
          show (if wantsB (.tuple (.str kd :: [.str o, l, r])) "right" r = true then false else endF j r) = _
          rw [wB_right, el]
        rw [ef] at k
        cases hy with
        | cons h1 hy =>
          cases h1
          cases hy with
          | cons h2 hy =>
            cases hy with
            | cons h3 hy =>
              cases hy
              refine ⟨_, rfl, _, _, _, _, rfl, rfl, SqT.of ha, atI_nat (j := 3) rfl, _, _, _, rfl, hr', h3, fun H1 s1 => ⟨_, rfl, _, _, _, _, rfl, rfl, SqT.of (s1 _ _ ha), atI_nat (j := 1) rfl, o, rfl, ho, fun p H2 s2 hp => ?_⟩⟩
              refine ⟨_, _, _, _, rfl, rfl, SqT.of hp, atI_nat (j := 1) rfl, _, _, rfl, rfl, _, rfl, ite2 (fun h => ?_) (fun h => ?_)⟩
              · have hlt : ¬ decide (lvl r < rr (opLv o)) = true := fun q => by
                  have a1 := of_decide_eq_true q
                  have a2 := of_decide_eq_true h
                  omega
                rw [if_neg hlt] at k
                exact ⟨_, rfl, _, _, _, _, rfl, rfl, SqT.of (s2 _ _ (s1 _ _ ha)), atI_nat (j := 3) rfl, _, r, j, rfl, by omega, hr', h3.keep (Tk.of (s1.trans s2)), fun H3 s3 => k H3 ((s1.trans s2).trans s3)⟩
              · have hlt : decide (lvl r < rr (opLv o)) = true := decide_eq_true (by
                  have : ¬ rr (opLv o) ≤ lvl r := fun q => h (decide_eq_true q)
                  omega)
                rw [if_pos hlt] at k
                exact k H2 (s1.trans s2)
      · have e : ¬ kd = "two" := fun e => h (decide_eq_true (congrArg V.str e))
        refine ⟨_, rfl, _, _, _, _, rfl, rfl, SqT.of ha, atI_nat (j := 0) rfl, by decide, fun p hp => ⟨p, _, rfl, .inr (SqT.of upd_same), rfl, strs_flat ["not", "minus"], _, rfl, ite2 (fun h => ?_) (fun h => ?_)⟩⟩
        · have e1 := mem2.mp (in_yes (l := ["not", "minus"]) h)
          obtain ⟨j, x, rfl, rfl, hxx⟩ := F.one e1
          have eo : opnds (.tuple (.str kd :: [x])) = [(("inside" : Str), x)] := (if_neg e).trans (if_pos e1)
          have ef : endF (j + 1) (.tuple (.str kd :: [x])) = if decide (lvl x < lvl (.tuple (.str kd :: [x]))) = true then false else endF j x := by
            show (if kd = "two" ∨ kd = "not" ∨ kd = "minus" then (match (opnds (.tuple (.str kd :: [x]))).getLast? with | some (s, y) => if wantsB (.tuple (.str kd :: [x])) s y = true then false else endF j y | none => false) else _) = _
            rw [if_pos (.inr e1), eo]
            show (if wantsB (.tuple (.str kd :: [x])) "inside" x = true then false else endF j x) = _
            rw [wB_inside]
          rw [ef] at k
          cases hy with
          | cons h1 hy =>
            cases hy
            have s0 := same_new (o := .tup [.str "not", .str "minus"]) hp
            refine ⟨_, rfl, _, _, _, _, rfl, rfl, SqT.of (s0 _ _ ha), atI_nat (j := 1) rfl, _, x, j, rfl, hxx, h1.keep (Tk.of s0), fun H1 s1 => ⟨_, rfl, _, _, _, rfl, hx, htr.keep (Tk.of (s0.trans s1)), fun H2 s2 => ?_⟩⟩
            refine ⟨_, _, rfl, rfl, _, rfl, ite2 (fun h => ?_) (fun h => ?_)⟩
            · have hlt : ¬ decide (lvl x < lvl (.tuple (.str kd :: [x]))) = true := fun q => by
                have a1 := of_decide_eq_true q
                have a2 := of_decide_eq_true h
                omega
              rw [if_neg hlt] at k
              exact ⟨_, rfl, _, _, _, _, rfl, rfl, SqT.of ((s0.trans (s1.trans s2)) _ _ ha), atI_nat (j := 1) rfl, _, x, j, rfl, by omega, hxx, h1.keep (Tk.of (s0.trans (s1.trans s2))), fun H3 s3 => k H3 ((s0.trans (s1.trans s2)).trans s3)⟩
            · have hlt : decide (lvl x < lvl (.tuple (.str kd :: [x]))) = true := decide_eq_true (by
                have : ¬ lvl (.tuple (.str kd :: [x])) ≤ lvl x := fun q => h (decide_eq_true q)
                omega)
              rw [if_pos hlt] at k
              exact k H2 (s0.trans (s1.trans s2))
        · have e1 : ¬ (kd = "not" ∨ kd = "minus") := fun q => in_no (l := ["not", "minus"]) h (mem2.mpr q)
          have ef : endF n (.tuple (.str kd :: ds)) = false := by
            cases n with
            | zero => exact decide_eq_false e0
            | succ n => exact (if_neg (fun q => q.elim e e1)).trans (decide_eq_false e0)
          rw [ef] at k
          exact k _ (same_new hp)

def spFlat (K : PySem.W.Frag) : Sp := fun vs H Q _ => ∃ (R : Addr) (rs : List Addr) (xss : List (List V)), vs = [.ref R] ∧ H R = some (.lst (rs.map V.ref)) ∧ rs.length = xss.length ∧
  (∀ (i : Nat) (r : Addr) (xs : List V), rs[i]? = some r → xss[i]? = some xs → H r = some (.lst xs)) ∧ xss.flatten.length ≤ 1000 ∧ ∀ p H', Same H H' → H p = none → H' p = some (.lst xss.flatten) → Q (.ref p) H'
theorem c_l_flat (T : Txt K mg w) : Cal P w K mg base 1 "_law_flat" (spFlat K) [] := by
  refine calOf T.d_l_flat sc_l_flat (fun vs H Q E h => ?_) (fun f cdv A outer s H vs Q E hr h => ?_)
  · obtain ⟨R, rs, xss, rfl, _⟩ := h
    rfl
  · obtain ⟨R, rs, xss, rfl, hR, hl, hrs, hz, k⟩ := h
    refine ⟨_,
      (pss_cons (ps_set (i := 1) sc_l_flat.nd rfl (Or.inl rfl) (pe_lst pa_nil))
        (pss_cons (ps_for PassesOwn.never rfl (pi_list (pv 0)) (pg_name (i := 2) sc_l_flat.nd rfl (Or.inl rfl))
        (pss_one (ps_expr (pe_bm PySem.F.plainAttrs_list PySem.F.slot_list_extend PySem.F.type_list_extend mt_extend (pv 1) (pa_cons (pv 2) pa_nil)))))
        (pss_one (ps_ret (pv 1)))))
      , ?_⟩
    refine ⟨by decide, fun p hp => ?_⟩
    refine ⟨_, rfl, R, rfl, ⟨_, SqL.of (upd_some hR hp)⟩, for_list (K := K) (a := R) (xs := rs.map V.ref) (fun i σ H' => ∃ v, σ = [some (.ref R), some (.ref p), v] ∧ Same H H' ∧ H' p = some (.lst (xss.take i).flatten))
      ⟨none, rfl, same_new hp, upd_same⟩ (fun i σ H' _ ⟨_, _, s1, _⟩ => SqL.of (s1 _ _ hR)) ?_ ?_⟩
    · rintro i y σ H' hi ⟨v, rfl, s1, h1⟩
      rw [List.getElem?_map] at hi
      obtain ⟨r, hr1, rfl⟩ := Option.map_eq_some_iff.mp hi
      have li : i < xss.length := by
        have := (List.getElem?_eq_some_iff.mp hr1).1
        omega
      have hx := List.getElem?_eq_getElem li
      have hH := s1 _ _ (hrs i r _ hr1 hx)
      have le : (xss.take (i + 1)).flatten = (xss.take i).flatten ++ xss[i] := by
        rw [List.take_add_one, hx, List.flatten_append]
        show _ ++ ([xss[i]] : List (List V)).flatten = _
        rw [List.flatten_cons, List.flatten_nil, List.append_nil]
      have lt : (xss.take (i + 1)).flatten.length ≤ 1000 := by
        have : (xss.take (i + 1)).flatten.length ≤ xss.flatten.length := by
          have e : xss.flatten = (xss.take (i + 1)).flatten ++ (xss.drop (i + 1)).flatten := by
            rw [← List.flatten_append, List.take_append_drop]
          rw [e, List.length_append]
          omega
        omega
      rw [le, List.length_append] at lt
      refine ⟨_, rfl, .inl ⟨rfl, _, SqL.of h1⟩, _, rfl, p, r, _, _, rfl, rfl, h1, hH, Nat.le_trans lt (by decide), _, rfl, same_put s1 hp, ?_⟩
      rw [le]
      exact upd_same
    · rintro σ H' ⟨v, rfl, s1, h1⟩
      rw [List.length_map, hl, List.take_length] at h1
      exact ⟨_, rfl, k p H' s1 hp h1⟩

/-- what stands in an expression, by its first word -/
structure Form2 (n : Nat) (d : PyData) (k : Str) (ds : List PyData) : Prop where
  eq : d = .tuple (.str k :: ds)
  pair : k = "two" ∨ k = "index" → ∃ pre l r, ds = pre ++ [l, r] ∧ (∃ m, m ≤ n ∧ Ex m l) ∧ (∃ m, m ≤ n ∧ Ex m r)
  head : k = "not" ∨ k = "minus" ∨ k = "call" ∨ k = "field" → ∃ h r, ds = h :: r ∧ (∃ m, m ≤ n ∧ Ex m h) ∧ (k = "call" → ∃ as, r = [.tuple as] ∧ as.length ≤ 3 ∧ ∀ a ∈ as, ∃ m, m ≤ n ∧ Ex m a)
  list : k = "list" → ∃ as, ds = [.tuple as] ∧ as.length ≤ 3 ∧ ∀ a ∈ as, ∃ m, m ≤ n ∧ Ex m a
  map : k = "map" → ∃ ps : List (PyData × PyData), ds = [.tuple (ps.map fun p => .tuple [p.1, p.2])] ∧ ps.length ≤ 3 ∧ (∀ p ∈ ps, ∃ m, m ≤ n ∧ Ex m p.1) ∧ (∀ p ∈ ps, ∃ m, m ≤ n ∧ Ex m p.2)
  fn : k = "fn" → ∃ ns b, ds = [ns, b] ∧ ∃ m, m ≤ n ∧ Ex m b
theorem form2_of {n : Nat} {d : PyData} (x : Ex n d) : ∃ k ds, Form2 n d k ds := by
  cases x with
  | leaf h =>
    rename_i k w
    have hk := leaf_kind h
    have no : ∀ z : Str, z ∉ (["name", "number", "quote", "word", "raw"] : List Str) → ¬ k = z := fun z hz e => hz (e ▸ hk)
    refine ⟨k, _, rfl, fun e => ?_, fun e => ?_, fun e => absurd e (no _ (by decide +kernel)), fun e => absurd e (no _ (by decide +kernel)), fun e => absurd e (no _ (by decide +kernel))⟩
    · rcases e with e | e
      · exact absurd e (no _ (by decide +kernel))
      · exact absurd e (no _ (by decide +kernel))
    · rcases e with e | e | e | e
      · exact absurd e (no _ (by decide +kernel))
      · exact absurd e (no _ (by decide +kernel))
      · exact absurd e (no _ (by decide +kernel))
      · exact absurd e (no _ (by decide +kernel))
  | two ho hl hr => exact ⟨_, _, rfl, fun _ => ⟨[_], _, _, rfl, ⟨_, Nat.le_succ _, hl⟩, ⟨_, Nat.le_succ _, hr⟩⟩, fun e => absurd e (by decide +kernel), fun e => absurd e (by decide +kernel), fun e => absurd e (by decide +kernel), fun e => absurd e (by decide +kernel)⟩
  | not h => exact ⟨_, _, rfl, fun e => absurd e (by decide +kernel), fun _ => ⟨_, _, rfl, ⟨_, Nat.le_succ _, h⟩, fun e => absurd e (by decide +kernel)⟩, fun e => absurd e (by decide +kernel), fun e => absurd e (by decide +kernel), fun e => absurd e (by decide +kernel)⟩
  | minus h => exact ⟨_, _, rfl, fun e => absurd e (by decide +kernel), fun _ => ⟨_, _, rfl, ⟨_, Nat.le_succ _, h⟩, fun e => absurd e (by decide +kernel)⟩, fun e => absurd e (by decide +kernel), fun e => absurd e (by decide +kernel), fun e => absurd e (by decide +kernel)⟩
  | call h hl hd => exact ⟨_, _, rfl, fun e => absurd e (by decide +kernel), fun _ => ⟨_, _, rfl, ⟨_, Nat.le_succ _, h⟩, fun _ => ⟨_, rfl, hl, fun a ha => ⟨_, Nat.le_succ _, hd a ha⟩⟩⟩, fun e => absurd e (by decide +kernel), fun e => absurd e (by decide +kernel), fun e => absurd e (by decide +kernel)⟩
  | field h _ => exact ⟨_, _, rfl, fun e => absurd e (by decide +kernel), fun _ => ⟨_, _, rfl, ⟨_, Nat.le_succ _, h⟩, fun e => absurd e (by decide +kernel)⟩, fun e => absurd e (by decide +kernel), fun e => absurd e (by decide +kernel), fun e => absurd e (by decide +kernel)⟩
  | index hl hr => exact ⟨_, _, rfl, fun _ => ⟨[], _, _, rfl, ⟨_, Nat.le_succ _, hl⟩, ⟨_, Nat.le_succ _, hr⟩⟩, fun e => absurd e (by decide +kernel), fun e => absurd e (by decide +kernel), fun e => absurd e (by decide +kernel), fun e => absurd e (by decide +kernel)⟩
  | list hl hd => exact ⟨_, _, rfl, fun e => absurd e (by decide +kernel), fun e => absurd e (by decide +kernel), fun _ => ⟨_, rfl, hl, fun a ha => ⟨_, Nat.le_succ _, hd a ha⟩⟩, fun e => absurd e (by decide +kernel), fun e => absurd e (by decide +kernel)⟩
  | map hl h1 h2 => exact ⟨_, _, rfl, fun e => absurd e (by decide +kernel), fun e => absurd e (by decide +kernel), fun e => absurd e (by decide +kernel), fun _ => ⟨_, rfl, hl, fun p hp => ⟨_, Nat.le_succ _, h1 p hp⟩, fun p hp => ⟨_, Nat.le_succ _, h2 p hp⟩⟩, fun e => absurd e (by decide +kernel)⟩
  | fn hl hn h => exact ⟨_, _, rfl, fun e => absurd e (by decide +kernel), fun e => absurd e (by decide +kernel), fun e => absurd e (by decide +kernel), fun e => absurd e (by decide +kernel), fun _ => ⟨_, _, rfl, _, Nat.le_succ _, h⟩⟩
theorem TrAll.cut {H : Hp} : ∀ {v : List V} {d e : List PyData}, TrAll H v (d ++ e) → ∃ u z, v = u ++ z ∧ TrAll H u d ∧ TrAll H z e
  | v, [], e, h => ⟨[], v, rfl, .nil, h⟩
  | _, d :: r, e, .cons h q => by
    obtain ⟨u, z, rfl, h1, h2⟩ := TrAll.cut q
    exact ⟨_ :: u, z, rfl, .cons h h1, h2⟩
theorem ndAll_app : ∀ a b : List PyData, ndAll (a ++ b) = ndAll a + ndAll b
  | [], b => (Nat.zero_add _).symm
  | x :: r, b => by
    show nd x + ndAll (r ++ b) = nd x + ndAll r + ndAll b
    rw [ndAll_app r b]
    omega
/-- parts of an expression below depth 4 -/
def Part4 (d : PyData) : Prop := ∃ m, m ≤ 4 ∧ Ex m d
theorem part_shaped {ds : List PyData} (h : ∀ d ∈ ds, Part4 d) : SeqAt.shaped (.list ds) = true := by
  have q : tameAll ds = true ∧ PyData.depthAll ds ≤ 13 := by
    induction ds with
    | nil => exact ⟨rfl, Nat.zero_le _⟩
    | cons d r ih =>
      obtain ⟨m, hm, hx⟩ := h d (List.mem_cons_self ..)
      have a := ex_nice hx
      have b := ih fun x hx => h x (List.mem_cons_of_mem _ hx)
      have := a.dp
      refine ⟨?_, Nat.max_le.mpr ⟨by omega, b.2⟩⟩
      show (tame d && tameAll r) = true
      rw [a.tm, b.1] <;> rfl
  unfold SeqAt.shaped
  rw [Bool.and_eq_true]
  refine ⟨(tameAll_ok ds q.1).2.2, decide_eq_true ?_⟩
  show PyData.depthAll ds + 1 ≤ 64
  omega
theorem ex_mono {n : Nat} {d : PyData} (h : Ex n d) : nd d ≤ NB n := (ex_nice h).no
def spExIn (K : PySem.W.Frag) : Sp := fun vs H Q _ => ∃ (v : V) (d : PyData) (n : Nat), vs = [v] ∧ n ≤ 4 ∧ Ex n d ∧ Tr H v d ∧
  ∀ p H' fs fds, Same H H' → H p = none → H' p = some (.lst fs) → TrAll H' fs fds → (∀ x ∈ fds, Part4 x) → Q (.ref p) H'

theorem maps_at {H : Hp} : ∀ {ps : List (PyData × PyData)} {vs : List V}, TrAll H vs (ps.map fun p => .tuple [p.1, p.2]) →
    ∃ xss : List (List V), xss.length = ps.length ∧ (∀ (i : Nat) (v : V) (xs : List V), vs[i]? = some v → xss[i]? = some xs → ∃ b, v = .ref b ∧ H b = some (.tup xs)) ∧ TrAll H xss.flatten (ps.flatMap fun p => [p.1, p.2])
  | [], _, _ => ⟨[], rfl, fun i v xs _ h => by simp at h, .nil⟩
  | p :: r, _, .cons h q => by
    obtain ⟨xss, l1, l2, l3⟩ := maps_at q
    generalize ed : PyData.tuple [p.1, p.2] = d at h
    cases h with
    | tup hb tb =>
      cases ed
      cases tb with
      | cons t1 tb =>
        cases tb with
        | cons t2 tb =>
          cases tb
          rename_i y1 y2
          refine ⟨[y1, y2] :: xss, congrArg (· + 1) l1, fun i v xs hv hx => ?_, ?_⟩
          · cases i with
            | zero =>
              cases hv
              cases hx
              exact ⟨_, rfl, hb⟩
            | succ i =>
              rw [List.getElem?_cons_succ] at hv hx
              exact l2 i v xs hv hx
          · exact .cons t1 (.cons t2 l3)
theorem nd_maps : ∀ ps : List (PyData × PyData), ndAll (ps.flatMap fun p => [p.1, p.2]) ≤ ndAll (ps.map fun p => .tuple [p.1, p.2])
  | [] => Nat.zero_le _
  | p :: r => by
    have := nd_maps r
    show nd p.1 + (nd p.2 + ndAll (r.flatMap fun p => [p.1, p.2])) ≤ (nd p.1 + (nd p.2 + 0) + 1) + ndAll (r.map fun p => .tuple [p.1, p.2])
    omega
theorem at_m2 (xs : List V) (a b : V) : atI (xs ++ [a, b]) (-2) = some a := by
  have hl : (xs ++ [a, b]).length = xs.length + 2 := by simp
  have e : ixN (xs ++ [a, b]).length (-2) = some xs.length := by
    unfold ixN
    rw [hl, if_neg (by decide), if_pos (by omega)]
    congr 1
    omega
  unfold atI
  rw [e]
  show (xs ++ [a, b])[xs.length]? = some a
  simp
theorem len_le_nd : ∀ {l : List PyData}, (∀ x ∈ l, Part4 x) → l.length ≤ ndAll l
  | [], _ => Nat.zero_le _
  | x :: r, h => by
    have := len_le_nd (l := r) fun y hy => h y (List.mem_cons_of_mem _ hy)
    obtain ⟨m, _, hx⟩ := h x (List.mem_cons_self ..)
    have h1 : 1 ≤ nd x := by
      obtain ⟨kx, dx, Fx⟩ := form_of hx
      rw [Fx.eq]
      show 1 ≤ ndAll _ + 1
      omega
    show r.length + 1 ≤ nd x + ndAll r
    omega
theorem c_l_expressions_in (T : Txt K mg w) (c_l_flat : Cal P w K mg base 1 "_law_flat" (spFlat K) []) : Cal P w K mg base 2 "_law_expressions_in" (spExIn K) [] := by
  refine calOf T.d_l_expressions_in sc_l_expressions_in (fun vs H Q E h => ?_) (fun f cdv A outer s H vs Q E hr h => ?_)
  · obtain ⟨v, d, n, rfl, _⟩ := h
    rfl
  · obtain ⟨v0, d0, n0, rfl, hn0, hx0, ht0, k⟩ := h
    refine ⟨_,
      (pss_cons (ps_par (i := 1) (j := 2) (by rfl) sc_l_expressions_in.nd rfl rfl (by decide) rfl rfl (pa_cons (pe_lst pa_nil) (pa_cons (pe_lst (pa_cons (pv 0) pa_nil)) pa_nil)) (by rfl))
        (pss_cons (ps_while PassesOwn.never (pt_cmpR (op_neD hr.units) (pv 2) (pe_lst pa_nil) (nomark _))
        (pss_cons (ps_set (i := 3) sc_l_expressions_in.nd rfl (Or.inl rfl) (pe_bm0 PySem.F.plainAttrs_list PySem.F.slot_list_pop PySem.F.type_list_pop mt_pop (pv 2)))
        (pss_cons (ps_expr (pe_bm PySem.F.plainAttrs_list PySem.F.slot_list_append PySem.F.type_list_append mt_append (pv 1) (pa_cons (pv 3) pa_nil)))
        (pss_one (ps_if (pt_cmpR op_in_seq (pe_ix ix_tup (pv 3) pe_int (fun _ _ => rfl)) (pe_tup (pa_cons pe_str (pa_cons pe_str pa_nil))) (by rfl))
        (pss_one (ps_expr (pe_bm PySem.F.plainAttrs_list PySem.F.slot_list_extend PySem.F.type_list_extend mt_extend (pv 2) (pa_cons (pe_lst (pa_cons (pe_ix ix_tup (pv 3) (pe_un un_neg pe_int) (fun _ _ => rfl)) (pa_cons (pe_ix ix_tup (pv 3) (pe_un un_neg pe_int) (fun _ _ => rfl)) pa_nil))) pa_nil))))
        (pss_one (ps_if (pt_cmpR op_in_seq (pe_ix ix_tup (pv 3) pe_int (fun _ _ => rfl)) (pe_tup (pa_cons pe_str (pa_cons pe_str (pa_cons pe_str (pa_cons pe_str pa_nil))))) (by rfl))
        (pss_cons (ps_expr (pe_bm PySem.F.plainAttrs_list PySem.F.slot_list_append PySem.F.type_list_append mt_append (pv 2) (pa_cons (pe_ix ix_tup (pv 3) pe_int (fun _ _ => rfl)) pa_nil)))
        (pss_one (ps_expr (pe_bm PySem.F.plainAttrs_list PySem.F.slot_list_extend PySem.F.type_list_extend mt_extendT (pv 2) (pa_cons (pe_ifExp (pt_cmpR op_eq (pe_ix ix_tup (pv 3) pe_int (fun _ _ => rfl)) pe_str (nomark _)) (pe_ix ix_tup (pv 3) pe_int (fun _ _ => rfl)) (pe_tup pa_nil)) pa_nil)))))
        (pss_one (ps_if (pt_cmpR op_eq (pe_ix ix_tup (pv 3) pe_int (fun _ _ => rfl)) pe_str (nomark _))
        (pss_one (ps_expr (pe_bm PySem.F.plainAttrs_list PySem.F.slot_list_extend PySem.F.type_list_extend mt_extendT (pv 2) (pa_cons (pe_ix ix_tup (pv 3) pe_int (fun _ _ => rfl)) pa_nil))))
        (pss_one (ps_if (pt_cmpR op_eq (pe_ix ix_tup (pv 3) pe_int (fun _ _ => rfl)) pe_str (nomark _))
        (pss_one (ps_expr (pe_bm PySem.F.plainAttrs_list PySem.F.slot_list_extend PySem.F.type_list_extend mt_extend (pv 2) (pa_cons (pe_c c_l_flat hr (by first | decide | omega) rfl (pa_cons (pe_lc (own := [("_law_pair", 4)]) (g := gName 4) (tt := tYes) rfl sc_l_expressions_in.nd (pi_tup (pe_ix ix_tup (pv 3) pe_int (fun _ _ => rfl))) (blkOk_by (N := ["_law_tree", "_law_found", "_law_line", "_law_one_here", "_law_pair"]) (sc := defScope s_l_expressions_in) (by decide +kernel)) (fun _ _ _ _ _ => pg_name (i := 4) sc_l_expressions_in.nd rfl (Or.inl rfl)) (fun _ _ _ _ _ => pts_nil) (fun _ _ _ _ _ => (pe_callTy (show CallR _ (.type "list") (rListOf K) from call_list_of) (by rfl) T.n_list (by decide +kernel) (pa_cons (pv 4) pa_nil)))) pa_nil)) pa_nil))))
        (pss_one (ps_if (pt_cmpR op_eq (pe_ix ix_tup (pv 3) pe_int (fun _ _ => rfl)) pe_str (nomark _))
        (pss_one (ps_expr (pe_bm PySem.F.plainAttrs_list PySem.F.slot_list_append PySem.F.type_list_append mt_append (pv 2) (pa_cons (pe_ix ix_tup (pv 3) pe_int (fun _ _ => rfl)) pa_nil))))
        pss_nil)))))))))))))
        (pss_one (ps_ret (pv 1)))))
      , ?_⟩
    have hb0 : nd d0 ≤ 2591 := by
      have := ex_mono hx0
      have m4 : ∀ {a b : Nat}, a ≤ b → NB a ≤ NB b := by
        intro a b h
        induction h with
        | refl => exact Nat.le_refl _
        | step _ ih =>
          refine Nat.le_trans ih ?_
          show _ ≤ 6 * NB _ + 5
          omega
      exact Nat.le_trans this (Nat.le_trans (m4 hn0) (by decide))
    refine ⟨by decide, fun F hF => ⟨_, rfl, by show 1 ≤ sizeLine; decide, fun L hL => ⟨_, _, rfl, ?_⟩⟩⟩
    have hLF : L ≠ F := fun e => by
      rw [e, upd_same] at hL
      cases hL
    have hL0 : H L = none := by
      rw [upd_ne hLF] at hL
      exact hL
    refine ⟨fun m σ H' => ∃ ls lds fs fds one pr, σ = [some v0, some (.ref F), some (.ref L), one, pr] ∧ H' L = some (.lst ls) ∧ TrAll H' ls lds ∧ (∀ d ∈ lds, Part4 d) ∧
        H' F = some (.lst fs) ∧ TrAll H' fs fds ∧ (∀ d ∈ fds, Part4 d) ∧ Same H H' ∧ m = ndAll lds ∧ ndAll lds + fs.length ≤ nd d0,
      ⟨_, [v0], [d0], [], [], none, none, rfl, upd_same, (TrAll.one ht0).new hF |>.new hL, fun d hd => ?_, upd_some upd_same hL, .nil, (fun d hd => by cases hd), (same_new hF).trans (same_new hL), rfl, Nat.le_refl _⟩, ?_⟩
    · rw [List.mem_singleton.mp hd]
      exact ⟨n0, hn0, hx0⟩
    rintro m σ H1 ⟨ls, lds, fs, fds, one, pr, rfl, aL, tL, pL, aF, tF, pF, s1, rfl, hm⟩
    refine ⟨_, rfl, by decide, fun p hp => ⟨.list lds, .list [], .lst (SqL.of (upd_some aL hp)) (tL.new hp).dp, .lst (SqL.of upd_same) .nil, part_shaped pL, by decide, _, rfl, ite2 (fun h => ?_) (fun h => ?_)⟩⟩
    · have hne : lds ≠ [] := fun e => by
        subst e
        exact absurd h (by decide)
      obtain ⟨l', d, rfl⟩ : ∃ l' d, lds = l' ++ [d] := ⟨lds.dropLast, lds.getLast hne, (List.dropLast_concat_getLast hne).symm⟩
      obtain ⟨u, z, rfl, tu, tz⟩ := TrAll.cut tL
      obtain ⟨y, rfl, ty⟩ : ∃ y, z = [y] ∧ Tr H1 y d := by
        cases tz with
        | cons h1 h2 =>
          cases h2
          exact ⟨_, rfl, h1⟩
      have aL2 := upd_some (u := .lst []) aL hp
      have aF2 := upd_some (u := .lst []) aF hp
      have tu2 := tu.new (o := .lst []) hp
      have ty2 := ty.new (o := .lst []) hp
      have tF2 := tF.new (o := .lst []) hp
      have s2 := s1.trans (same_new (o := .lst []) hp)
      generalize upd H1 p (HO.lst []) = H2 at aL2 aF2 tu2 ty2 tF2 s2 ⊢
      have pd : Part4 d := pL d (List.mem_append_right _ (List.mem_singleton.mpr rfl))
      have pl : ∀ x ∈ l', Part4 x := fun x hx => pL x (List.mem_append_left _ hx)
      have en : ndAll (l' ++ [d]) = ndAll l' + nd d := by
        rw [ndAll_app]
        rfl
      rw [en] at hm ⊢
      refine ⟨_, fun _ _ q => q, ?_⟩
      refine ⟨_, rfl, .inl ⟨rfl, _, SqL.of aL2⟩, L, _, y, rfl, rfl, aL2, by simp, ?_⟩
      have e1 : (u ++ [y]).dropLast = u := List.dropLast_concat
      rw [e1]
      have k3 := tk_lst (o := .lst u) aL2
      have aL3 : upd H2 L (.lst u) L = some (.lst u) := upd_same
      have aF3 : upd H2 L (.lst u) F = some (.lst fs) := by
        rw [upd_ne (Ne.symm hLF)]
        exact aF2
      have tu3 := tu2.keep k3
      have ty3 := ty2.keep k3
      have tF3 := tF2.keep k3
      have s3 := same_put (o := .lst u) s2 hL0
      generalize upd H2 L (HO.lst u) = H3 at aL3 aF3 tu3 ty3 tF3 s3 ⊢
      refine ⟨_, rfl, .inl ⟨rfl, _, SqL.of aF3⟩, _, rfl, F, fs, y, rfl, rfl, aF3, Nat.lt_of_le_of_lt (show fs.length ≤ 2591 by omega) (by decide), ?_⟩
      have k4 := tk_lst (o := .lst (fs ++ [y])) aF3
      have aF4 : upd H3 F (.lst (fs ++ [y])) F = some (.lst (fs ++ [y])) := upd_same
      have aL4 : upd H3 F (.lst (fs ++ [y])) L = some (.lst u) := by
        rw [upd_ne hLF]
        exact aL3
      have tu4 := tu3.keep k4
      have ty4 := ty3.keep k4
      have tF4 := (tF3.app (.one ty3)).keep k4
      have s4 := same_put (o := .lst (fs ++ [y])) s3 hF
      have pF4 : ∀ x ∈ fds ++ [d], Part4 x := fun x hx => by
        rcases List.mem_append.mp hx with q | q
        · exact pF x q
        · rw [List.mem_singleton.mp q]
          exact pd
      generalize upd H3 F (HO.lst (fs ++ [y])) = H4 at aF4 aL4 tu4 ty4 tF4 s4 ⊢
      -- what is left to show behind the turn
      have lu : u.length ≤ ndAll l' := by
        rw [tu4.len]
        exact len_le_nd pl
      have fin : ∀ (H5 : Hp) (ch : List V) (cds : List PyData) (one pr : Option V), H5 L = some (.lst (u ++ ch)) → H5 F = some (.lst (fs ++ [y])) → TrAll H5 ch cds → (∀ x ∈ cds, Part4 x) → Tk H4 H5 → Same H H5 → ndAll cds + 1 ≤ nd d →
          ∃ m', m' < ndAll l' + nd d ∧ (∃ ls lds fs fds one' pr', ([some v0, some (.ref F), some (.ref L), one, pr] : L2.St) = [some v0, some (.ref F), some (.ref L), one', pr'] ∧
              H5 L = some (.lst ls) ∧ TrAll H5 ls lds ∧ (∀ d ∈ lds, Part4 d) ∧ H5 F = some (.lst fs) ∧ TrAll H5 fs fds ∧ (∀ d ∈ fds, Part4 d) ∧ Same H H5 ∧ m' = ndAll lds ∧ ndAll lds + fs.length ≤ nd d0) := by
        intro H5 ch cds one pr g1 g2 g3 g4 g5 g6 g7
        refine ⟨ndAll (l' ++ cds), by rw [ndAll_app]; omega, _, l' ++ cds, _, fds ++ [d], one, pr, rfl, g1, (tu4.keep g5).app g3, ?_, g2, tF4.keep g5, pF4, g6, rfl, ?_⟩
        · intro x hx
          rcases List.mem_append.mp hx with q | q
          · exact pl x q
          · exact g4 x q
        · rw [ndAll_app, List.length_append]
          show ndAll l' + ndAll cds + (fs.length + 1) ≤ nd d0
          omega
      -- a list of children is put behind the line
      have size : ∀ (ch : List V) (cds : List PyData), ch.length = cds.length → cds.length ≤ 10 → u.length + ch.length ≤ sizeLine := fun ch cds a b => Nat.le_trans (show u.length + ch.length ≤ 2700 by omega) (by decide)
      obtain ⟨m4, hm4, hxd⟩ := pd
      obtain ⟨kd, ds, F2⟩ := form2_of hxd
      have ed := F2.eq
      subst ed
      obtain ⟨a, ys, rfl, ha, hy⟩ := tr_tup ty4
      have part : ∀ {x : PyData}, (∃ m, m ≤ m4 ∧ Ex m x) → Part4 x := fun ⟨m, h1, h2⟩ => ⟨m, by omega, h2⟩
      -- what stands behind a tuple that a test makes
      have put : ∀ (H5 : Hp) (ch : List V) (cds : List PyData) (one pr : Option V), H5 L = some (.lst u) → H5 F = some (.lst (fs ++ [.ref a])) → TrAll H5 ch cds → (∀ x ∈ cds, Part4 x) → Tk H4 H5 → Same H H5 → ndAll cds + 1 ≤ nd (.tuple (.str kd :: ds)) →
          ∃ m', m' < ndAll l' + nd (.tuple (.str kd :: ds)) ∧ (∃ ls lds fs fds one' pr', ([some v0, some (.ref F), some (.ref L), one, pr] : L2.St) = [some v0, some (.ref F), some (.ref L), one', pr'] ∧
              (upd H5 L (.lst (u ++ ch))) L = some (.lst ls) ∧ TrAll (upd H5 L (.lst (u ++ ch))) ls lds ∧ (∀ d ∈ lds, Part4 d) ∧ (upd H5 L (.lst (u ++ ch))) F = some (.lst fs) ∧ TrAll (upd H5 L (.lst (u ++ ch))) fs fds ∧ (∀ d ∈ fds, Part4 d) ∧ Same H (upd H5 L (.lst (u ++ ch))) ∧ m' = ndAll lds ∧ ndAll lds + fs.length ≤ nd d0) := by
        intro H5 ch cds one pr g1 g2 g3 g4 g5 g6 g7
        refine fin _ ch cds one pr upd_same ?_ (g3.keep (tk_lst g1)) g4 (g5.trans (tk_lst g1)) (same_put g6 hL0) g7
        rw [upd_ne (Ne.symm hLF)]
        exact g2
      refine ⟨_, rfl, _, _, _, _, rfl, rfl, SqT.of ha, atI_nat (j := 0) rfl, by decide, fun p1 hp1 => ⟨p1, _, rfl, .inr (SqT.of upd_same), rfl, strs_flat ["two", "index"], _, rfl, ite2 (fun h => ?_) (fun h => ?_)⟩⟩
      all_goals
        have ha5 := upd_some (u := .tup [.str "two", .str "index"]) ha hp1
        have aL5 := upd_some (u := .tup [.str "two", .str "index"]) aL4 hp1
        have aF5 := upd_some (u := .tup [.str "two", .str "index"]) aF4 hp1
        have hy5 := hy.new (o := .tup [.str "two", .str "index"]) hp1
        have s5 := s4.trans (same_new (o := .tup [.str "two", .str "index"]) hp1)
        have k5 : Tk H4 _ := (Tk.refl H4).new (o := .tup [.str "two", .str "index"]) hp1
        generalize upd H4 p1 (HO.tup [.str "two", .str "index"]) = H5 at ha5 aL5 aF5 hy5 s5 k5 ⊢
      · obtain ⟨pre, l, r, rfl, xl, xr⟩ := F2.pair (mem2.mp (in_yes (l := ["two", "index"]) h))
        obtain ⟨up, z, rfl, tp, tz⟩ := TrAll.cut hy5
        cases tz with
        | cons z1 tz =>
          rename_i vl _
          cases tz with
          | cons z2 tz =>
            rename_i vr _
            cases tz
            have a1 : atI (V.str kd :: (up ++ [vl, vr])) (-1) = some vr := by
              have e : (V.str kd :: (up ++ [vl, vr])) = (V.str kd :: (up ++ [vl])) ++ [vr] := by simp
              rw [e]
              exact atI_last _ _
            have a2 : atI (V.str kd :: (up ++ [vl, vr])) (-2) = some vl := at_m2 (V.str kd :: up) vl vr
            refine ⟨_, rfl, .inl ⟨rfl, _, SqL.of aL5⟩, _, rfl, _, rfl, _, _, _, _, rfl, rfl, SqT.of ha5, a2, _, rfl, _, rfl, _, _, _, _, rfl, rfl, SqT.of ha5, a1, by show 2 ≤ sizeLine; decide, fun q hq => ?_⟩
            refine ⟨L, q, u, [vl, vr], rfl, rfl, upd_some aL5 hq, upd_same, size [vl, vr] [l, r] rfl (by show 2 ≤ 10; decide), ?_⟩
            refine put _ [vl, vr] [l, r] _ _ (upd_some aL5 hq) (upd_some aF5 hq) (.cons (z1.new hq) (.cons (z2.new hq) .nil)) ?_ (k5.new hq) (s5.trans (same_new hq)) ?_
            · intro x hx
              rcases List.mem_cons.mp hx with rfl | hx
              · exact part xl
              · rw [List.mem_singleton.mp hx]
                exact part xr
            · show nd l + (nd r + 0) + 1 ≤ 0 + ndAll (pre ++ [l, r]) + 1
              rw [ndAll_app]
              show nd l + (nd r + 0) + 1 ≤ 0 + (ndAll pre + (nd l + (nd r + 0))) + 1
              omega
      · refine ⟨_, rfl, _, _, _, _, rfl, rfl, SqT.of ha5, atI_nat (j := 0) rfl, by decide, fun p2 hp2 => ⟨p2, _, rfl, .inr (SqT.of upd_same), rfl, strs_flat ["not", "minus", "call", "field"], _, rfl, ite2 (fun h => ?_) (fun h => ?_)⟩⟩
        all_goals
          have ha6 := upd_some (u := .tup [.str "not", .str "minus", .str "call", .str "field"]) ha5 hp2
          have aL6 := upd_some (u := .tup [.str "not", .str "minus", .str "call", .str "field"]) aL5 hp2
          have aF6 := upd_some (u := .tup [.str "not", .str "minus", .str "call", .str "field"]) aF5 hp2
          have hy6 := hy5.new (o := .tup [.str "not", .str "minus", .str "call", .str "field"]) hp2
          have s6 := s5.trans (same_new (o := .tup [.str "not", .str "minus", .str "call", .str "field"]) hp2)
          have k6 : Tk H4 _ := k5.new (o := .tup [.str "not", .str "minus", .str "call", .str "field"]) hp2
          generalize upd H5 p2 (HO.tup [.str "not", .str "minus", .str "call", .str "field"]) = H6 at ha6 aL6 aF6 hy6 s6 k6 ⊢
        · have hk := in_yes (l := ["not", "minus", "call", "field"]) h
          have hk : kd = "not" ∨ kd = "minus" ∨ kd = "call" ∨ kd = "field" := by simpa using hk
          obtain ⟨hd, r, rfl, xh, hc⟩ := F2.head hk
          cases hy6 with
          | cons z1 tz =>
            rename_i vh ysr
            refine ⟨_, rfl, .inl ⟨rfl, _, SqL.of aL6⟩, _, rfl, _, _, _, _, rfl, rfl, SqT.of ha6, atI_nat (j := 1) rfl, L, u, vh, rfl, rfl, aL6, Nat.lt_of_le_of_lt (show u.length ≤ 2591 by omega) (by decide), ?_⟩
            have k7 := k6.trans (tk_lst (o := .lst (u ++ [vh])) aL6)
            have ha7 : upd H6 L (.lst (u ++ [vh])) a = some (.tup (.str kd :: vh :: ysr)) := tk_lst (o := .lst (u ++ [vh])) aL6 _ _ ha6
            have aL7 : upd H6 L (.lst (u ++ [vh])) L = some (.lst (u ++ [vh])) := upd_same
            have aF7 : upd H6 L (.lst (u ++ [vh])) F = some (.lst (fs ++ [.ref a])) := by
              rw [upd_ne (Ne.symm hLF)]
              exact aF6
            have z7 := z1.keep (tk_lst (o := .lst (u ++ [vh])) aL6)
            have tz7 := tz.keep (tk_lst (o := .lst (u ++ [vh])) aL6)
            have s7 := same_put (o := .lst (u ++ [vh])) s6 hL0
            generalize upd H6 L (HO.lst (u ++ [vh])) = H7 at k7 ha7 aL7 aF7 z7 tz7 s7 ⊢
            refine ⟨_, rfl, .inl ⟨rfl, _, SqL.of aL7⟩, _, rfl, _, _, _, _, rfl, rfl, SqT.of ha7, atI_nat (j := 0) rfl, rfl, _, rfl, ite2 (fun h => ?_) (fun h => ?_)⟩
            · have e : kd = "call" := V.str.inj (of_decide_eq_true h)
              obtain ⟨as, rfl, la, xa⟩ := hc e
              cases tz7 with
              | cons z2 tz2 =>
                cases tz2
                cases z2 with
                | tup hb tb =>
                  rename_i b vas
                  have lb := tb.len
                  refine ⟨_, rfl, _, _, _, _, rfl, rfl, SqT.of ha7, atI_nat (j := 2) rfl, L, b, u ++ [vh], vas, rfl, rfl, aL7, SqT.of hb, Nat.le_trans (show (u ++ [vh]).length + vas.length ≤ 2700 by rw [List.length_append]; show u.length + 1 + vas.length ≤ 2700; omega) (by decide), ?_⟩
                  have kf := tk_lst (o := .lst (u ++ [vh] ++ vas)) aL7
                  refine fin _ (vh :: vas) (hd :: as) _ _ (by rw [upd_same, List.append_assoc]; rfl) (by rw [upd_ne (Ne.symm hLF)]; exact aF7) (.cons (z7.keep kf) (tb.keep kf)) ?_ (k7.trans kf) (same_put s7 hL0) ?_
                  · intro x hx
                    rcases List.mem_cons.mp hx with rfl | hx
                    · exact part xh
                    · exact part (xa x hx)
                  · show nd hd + ndAll as + 1 ≤ 0 + (nd hd + (ndAll as + 1 + 0)) + 1
                    omega
            · refine ⟨by decide, fun q hq => ⟨L, q, u ++ [vh], [], rfl, rfl, upd_some aL7 hq, SqT.of upd_same, Nat.le_trans (show (u ++ [vh]).length + 0 ≤ 2700 by rw [List.length_append]; show u.length + 1 + 0 ≤ 2700; omega) (by decide), ?_⟩⟩
              have aL8 := upd_some (u := .tup []) aL7 hq
              have kf := tk_lst (o := .lst (u ++ [vh] ++ [])) aL8
              refine fin _ [vh] [hd] _ _ (by rw [upd_same, List.append_nil]) (by rw [upd_ne (Ne.symm hLF)]; exact upd_some aF7 hq) (.one ((z7.new hq).keep kf)) ?_ ((k7.new hq).trans kf) (same_put (s7.trans (same_new hq)) hL0) ?_
              · intro x hx
                rw [List.mem_singleton.mp hx]
                exact part xh
              · show nd hd + 0 + 1 ≤ 0 + (nd hd + ndAll r) + 1
                omega
        · refine ⟨_, rfl, _, _, _, _, rfl, rfl, SqT.of ha6, atI_nat (j := 0) rfl, rfl, _, rfl, ite2 (fun h => ?_) (fun h => ?_)⟩
          · have e : kd = "list" := V.str.inj (of_decide_eq_true h)
            obtain ⟨as, rfl, la, xa⟩ := F2.list e
            cases hy6 with
            | cons z1 tz =>
              cases tz
              cases z1 with
              | tup hb tb =>
                rename_i b vas
                refine ⟨_, rfl, .inl ⟨rfl, _, SqL.of aL6⟩, _, rfl, _, _, _, _, rfl, rfl, SqT.of ha6, atI_nat (j := 1) rfl, L, b, u, vas, rfl, rfl, aL6, SqT.of hb, size vas as tb.len (by omega), ?_⟩
                refine put _ vas as _ _ aL6 aF6 tb (fun x hx => part (xa x hx)) k6 s6 ?_
                show ndAll as + 1 ≤ 0 + (ndAll as + 1 + 0) + 1
                omega
          · refine ⟨_, rfl, _, _, _, _, rfl, rfl, SqT.of ha6, atI_nat (j := 0) rfl, rfl, _, rfl, ite2 (fun h => ?_) (fun h => ?_)⟩
            · have e : kd = "map" := V.str.inj (of_decide_eq_true h)
              obtain ⟨ps, rfl, lp, x1, x2⟩ := F2.map e
              cases hy6 with
              | cons z1 tz =>
                cases tz
                generalize epd : (ps.map fun p => PyData.tuple [p.1, p.2]) = pd at z1
                cases z1 with
                | tup hb tb =>
                  rename_i b vps
                  subst epd
                  obtain ⟨xss, lx, hxs, tx⟩ := maps_at tb
                  refine ⟨_, rfl, .inl ⟨rfl, _, SqL.of aL6⟩, _, rfl, _, _, _, _, rfl, rfl, SqT.of ha6, atI_nat (j := 1) rfl, b, rfl, ⟨_, SqT.of hb⟩, fun D hD => ?_⟩
                  have lv : vps.length = ps.length := by
                    rw [tb.len, List.length_map]
                  refine lc_tup (K := K) (a := b) (xs := vps) (fun i H' => ∃ rs : List Addr, rs.length = i ∧ H' D = some (.lst (rs.map V.ref)) ∧ (∀ (j : Nat) (r : Addr) (xs : List V), rs[j]? = some r → xss[j]? = some xs → H' r = some (.lst xs)) ∧ (∀ r ∈ rs, r ≠ D) ∧ Same H6 H')
                    ⟨[], rfl, upd_same, fun j r xs h => by simp at h, (fun r hr => by cases hr), same_put (Same.refl _) hD⟩ ?_ ?_ ?_
                  · rintro i H' _ ⟨rs, _, _, _, _, s7⟩
                    exact SqT.of (s7 _ _ hb)
                  · rintro i v H' hi ⟨rs, lr, hd, hr1, hrD, s7⟩
                    have li : i < xss.length := by
                      have := (List.getElem?_eq_some_iff.mp hi).1
                      omega
                    obtain ⟨c, rfl, hc⟩ := hxs i v _ hi (List.getElem?_eq_getElem li)
                    refine ⟨rfl, _, rfl, c, _, rfl, .inr (SqT.of (s7 _ _ hc)), fun q hq => ?_⟩
                    have hd2 := upd_some (u := .lst xss[i]) hd hq
                    have nqD : q ≠ D := fun e => by
                      rw [e, hd] at hq
                      cases hq
                    refine ⟨_, hd2, by rw [List.length_map, lr]; exact Nat.lt_of_lt_of_le (show i < 100 by omega) (by decide), rs ++ [q], by rw [List.length_append, lr] <;> rfl, by rw [upd_same, List.map_append] <;> rfl, ?_, ?_, same_put (s7.trans (same_new hq)) hD⟩
                    · intro j r xs hj hx
                      by_cases hji : j < rs.length
                      · rw [List.getElem?_append_left hji] at hj
                        have hr := hr1 j r xs hj hx
                        rw [upd_ne (hrD r (List.mem_of_getElem? hj))]
                        exact upd_some hr hq
                      · rw [List.getElem?_append_right (by omega)] at hj
                        have e0 : j - rs.length = 0 := by
                          cases e : j - rs.length with
                          | zero => rfl
                          | succ x =>
                            rw [e] at hj
                            simp at hj
                        rw [e0] at hj
                        cases hj
                        have ej : j = i := by omega
                        subst ej
                        rw [List.getElem?_eq_getElem li] at hx
                        cases hx
                        rw [upd_ne nqD]
                        exact upd_same
                    · intro r hr
                      rcases List.mem_append.mp hr with q1 | q1
                      · exact hrD r q1
                      · rw [List.mem_singleton.mp q1]
                        exact nqD
                  · rintro H7 ⟨rs, lr, hd, hr1, hrD, s7⟩
                    have lf : xss.flatten.length = (ps.flatMap fun p => [p.1, p.2]).length := tx.len
                    have lf2 : (ps.flatMap fun p => [p.1, p.2]).length ≤ 6 := by
                      have : ∀ l : List (PyData × PyData), (l.flatMap fun p => [p.1, p.2]).length = 2 * l.length := by
                        intro l
                        induction l with
                        | nil => rfl
                        | cons x r ih =>
                          rw [List.flatMap_cons, List.length_append, ih, List.length_cons]
                          show 2 + 2 * r.length = 2 * (r.length + 1)
                          omega
                      rw [this]
                      omega
                    refine ⟨D, rs, xss, rfl, hd, by omega, hr1, by omega, fun q H8 s8 hq hq8 => ?_⟩
                    have s68 := s7.trans s8
                    refine ⟨L, q, u, _, rfl, rfl, s68 _ _ aL6, hq8, size _ _ lf (by omega), ?_⟩
                    refine put H8 _ (ps.flatMap fun p => [p.1, p.2]) _ _ (s68 _ _ aL6) (s68 _ _ aF6) (tx.keep (Tk.of s68)) ?_ (k6.trans (Tk.of s68)) (s6.trans s68) ?_
                    · intro x hx
                      obtain ⟨p, hp, hx⟩ := List.mem_flatMap.mp hx
                      rcases List.mem_cons.mp hx with rfl | hx
                      · exact part (x1 p hp)
                      · rw [List.mem_singleton.mp hx]
                        exact part (x2 p hp)
                    · have := nd_maps ps
                      show ndAll (ps.flatMap fun p => [p.1, p.2]) + 1 ≤ 0 + (ndAll (ps.map fun p => .tuple [p.1, p.2]) + 1 + 0) + 1
                      omega
            · refine ⟨_, rfl, _, _, _, _, rfl, rfl, SqT.of ha6, atI_nat (j := 0) rfl, rfl, _, rfl, ite2 (fun h => ?_) (fun h => ?_)⟩
              · have e : kd = "fn" := V.str.inj (of_decide_eq_true h)
                obtain ⟨ns, b, rfl, xb⟩ := F2.fn e
                cases hy6 with
                | cons z1 tz =>
                  cases tz with
                  | cons z2 tz =>
                    rename_i vb _
                    cases tz
                    refine ⟨_, rfl, .inl ⟨rfl, _, SqL.of aL6⟩, _, rfl, _, _, _, _, rfl, rfl, SqT.of ha6, atI_nat (j := 2) rfl, L, u, vb, rfl, rfl, aL6, Nat.lt_of_le_of_lt (show u.length ≤ 2591 by omega) (by decide), ?_⟩
                    refine put _ [vb] [b] _ _ aL6 aF6 (.one z2) ?_ k6 s6 ?_
                    · intro x hx
                      rw [List.mem_singleton.mp hx]
                      exact part xb
                    · show nd b + 0 + 1 ≤ 0 + (nd ns + (nd b + 0)) + 1
                      omega
              · exact fin _ [] [] _ _ (by rw [List.append_nil]; exact aL6) aF6 .nil (fun x hx => by cases hx) k6 s6 (by show 0 + 1 ≤ ndAll _ + 1; omega)
    · have e : lds = [] := by
        cases lds with
        | nil => rfl
        | cons x r => exact absurd rfl h
      subst e
      exact ⟨_, rfl, k F _ fs fds (s1.trans (same_new hp)) hF (upd_some aF hp) (tF.new hp) pF⟩

def spBag (K : PySem.W.Frag) : Sp := fun vs H Q _ => ∃ (a : Addr) (ns : List Int), vs = [.ref a] ∧ SqL K H a (ns.map V.int) ∧ ns.length ≤ 63 ∧ ∀ (g : Bg) (H' : Hp), Same H H' → Bag H' g 0 0 → Q (.ref g.b) H'
theorem cut_ints (ns : List Int) (lo hi : Option Int) : ∃ ms : List Int, cutV (ns.map V.int) lo hi = ms.map V.int ∧ ms.length ≤ ns.length := by
  refine ⟨(ns.drop (HT.sIx (ns.map V.int).length 0 lo)).take (HT.sIx (ns.map V.int).length (ns.map V.int).length hi - HT.sIx (ns.map V.int).length 0 lo), ?_, ?_⟩
  · unfold cutV
    rw [List.map_take, List.map_drop]
  · rw [List.length_take, List.length_drop]
    omega
theorem c_l_bag (T : Txt K mg w) : Cal P w K mg base 1 "_law_bag" (spBag K) [] := by
  refine calOf T.d_l_bag sc_l_bag (fun vs H Q E h => ?_) (fun f cdv A outer s H vs Q E hr h => ?_)
  · obtain ⟨a, ns, rfl, _⟩ := h
    rfl
  · obtain ⟨a, ns, rfl, hq, hl, k⟩ := h
    refine ⟨_,
      (pss_one (ps_ret (pe_lst (pa_cons pe_int (pa_cons pe_int (pa_cons pe_int (pa_cons (pe_lc (own := [("_law_cell", 1)]) (g := gName 1) (tt := tYes) rfl sc_l_bag.nd (pi_list (pe_slice sl_list (pv 0) po_none (po_some pe_int))) (blkOk_by (N := ["_law_script", "_law_cell"]) (sc := defScope s_l_bag) (by decide +kernel)) (fun _ _ _ _ _ => pg_name (i := 1) sc_l_bag.nd rfl (Or.inl rfl)) (fun _ _ _ _ _ => pts_nil) (fun _ _ _ _ _ => (pe_callB call_abs (by rfl) T.n_abs (by decide +kernel) (pa_cons (pv 1) pa_nil)))) (pa_cons pe_int (pa_cons pe_int pa_nil)))))))))
      , ?_⟩
    obtain ⟨ms, em, lm⟩ := cut_ints ns none (some 63)
    refine ⟨_, rfl, _, rfl, a, _, rfl, hq, fun p hp => ?_⟩
    rw [em]
    refine ⟨p, rfl, ⟨_, SqL.of upd_same⟩, fun D hD => ?_⟩
    have ap : upd H p (.lst (ms.map V.int)) p = some (.lst (ms.map V.int)) := upd_same
    have s1 : Same H (upd H p (.lst (ms.map V.int))) := same_new hp
    generalize upd H p (HO.lst (ms.map V.int)) = H1 at ap s1 hD ⊢
    refine lc_list (K := K) (a := p) (xs := ms.map V.int) (fun i H' => H' D = some (.lst (((ms.take i).map fun n => if n < 0 then -n else n).map V.int)) ∧ Same H1 H') ⟨upd_same, same_put (Same.refl _) hD⟩ (fun i H' _ ⟨_, s2⟩ => SqL.of (s2 _ _ ap)) ?_ ?_
    · rintro i y H' hi ⟨hd, s2⟩
      rw [List.getElem?_map] at hi
      obtain ⟨n, hn, rfl⟩ := Option.map_eq_some_iff.mp hi
      have li := (List.getElem?_eq_some_iff.mp hn).1
      refine ⟨rfl, _, rfl, n, rfl, _, hd, ?_, ?_, same_put s2 hD⟩
      · rw [List.length_map, List.length_map, List.length_take]
        exact Nat.lt_of_le_of_lt (Nat.min_le_left _ _) (Nat.lt_of_lt_of_le (show i < 100 by omega) (by decide))
      · rw [upd_same, List.take_add_one, hn, List.map_append, List.map_append]
        rfl
    · rintro H2 ⟨hd, s2⟩
      rw [List.length_map, List.take_length] at hd
      refine ⟨by show 6 ≤ sizeLine; decide, fun b hb => ?_⟩
      refine k ⟨b, D⟩ _ ((s1.trans s2).trans (same_new hb)) ⟨⟨0, 1234567891, 0, ms.map fun n => if n < 0 then -n else n, upd_same, upd_some hd hb, by decide, by decide, by decide, by decide, ?_, ?_⟩, ?_⟩
      · intro n hn
        obtain ⟨x, _, rfl⟩ := List.mem_map.mp hn
        show 0 ≤ if x < 0 then -x else x
        split <;> omega
      · rw [List.length_map]
        omega
      · exact ne_of_none hd hb
theorem c_l_expression (T : Txt K mg w) {m : Nat} (c_l_part : Cal P w K mg base (4 + m) "_law_part" (spPart m) []) : Cal P w K mg base (4 + m + 1) "_law_expression" (spPart m) [] := by
  refine calOf T.d_l_expression sc_l_expression (fun vs H Q E h => ?_) (fun f cdv A outer s H vs Q E hr h => ?_)
  · obtain ⟨g, n, c, e, rfl, _⟩ := h
    rfl
  · obtain ⟨g, n, c, e, rfl, hn, B, k⟩ := h
    obtain ⟨z, mm, i, ns, hb, hL, rest⟩ := B.ex
    refine ⟨_,
      (pss_cons (ps_asg pe_int (pg_sub (pv 0) pe_int set_list))
        (pss_one (ps_ret (pe_c c_l_part hr (by first | decide | omega) rfl (pa_cons (pv 0) (pa_cons (pv 1) pa_nil))))))
      , ?_⟩
    have D1 : Drawn g H (upd H g.b (.lst [.int z, .int mm, .int i, .ref g.L, .int c, .int 0])) c 0 :=
      .mk' B ⟨⟨z, mm, i, ns, upd_same, by rw [upd_ne B.ne]; exact hL, rest⟩, B.ne⟩ (Fr.refl _ _).at
    refine ⟨_, rfl, _, _, _, _, rfl, rfl, hb, rfl, ?_⟩
    exact ⟨_, rfl, _, rfl, g, n, c, 0, rfl, hn, D1.bag, fun v d H' e' hx ht D2 => k v d H' e' hx ht (D1.trans D2)⟩

/-- what is told of an expression -/
def toldD (n : Nat) (d : PyData) : PyData := .list [.int (lvl d), .tuple ((opnds d).map pairD), .bool (endF n d), .list ((opnds d).map fun p => .bool (wantsB d p.1 p.2))]
theorem opLv_small : ∀ o ∈ signsL, 0 ≤ opLv o ∧ opLv o ≤ 10 := by
  have h : signsL.all (fun o => decide (0 ≤ opLv o ∧ opLv o ≤ 10)) = true := by decide +kernel
  exact fun o ho => of_decide_eq_true (List.all_eq_true.mp h o ho)
theorem lvl_small {n : Nat} {d : PyData} (h : Ex n d) : 0 ≤ lvl d ∧ lvl d ≤ 10 := by
  obtain ⟨k, ds, F⟩ := form_of h
  have ed := F.eq
  subst ed
  show 0 ≤ (if k = "two" then opOf ds else lvK k) ∧ (if k = "two" then opOf ds else lvK k) ≤ 10
  by_cases e : k = "two"
  · obtain ⟨m, o, l, r, hm, ho, rfl, hl, hr⟩ := F.two e
    rw [if_pos e]
    exact opLv_small o ho
  · rw [if_neg e]
    unfold lvK
    split
    · decide
    · split
      · decide
      · split <;> decide
theorem side_name {n : Nat} {d : PyData} {s : Str} {x : PyData} (hx : Ex n d) (h : (s, x) ∈ opnds d) : niceStr 6 s = true := by
  obtain ⟨k, ds, F⟩ := form_of hx
  have ed := F.eq
  subst ed
  by_cases e : k = "two"
  · obtain ⟨m, o, l, r, hm, ho, rfl, hl, hr⟩ := F.two e
    have eo : opnds (.tuple (.str k :: [.str o, l, r])) = [(("left" : Str), l), (("right" : Str), r)] := if_pos e
    rw [eo] at h
    rcases List.mem_cons.mp h with q | q
    · cases q
      decide +kernel
    · cases List.mem_singleton.mp q
      decide +kernel
  by_cases e1 : k = "not" ∨ k = "minus"
  · obtain ⟨m, a, hm, rfl, ha⟩ := F.one e1
    have eo : opnds (.tuple (.str k :: [a])) = [(("inside" : Str), a)] := (if_neg e).trans (if_pos e1)
    rw [eo] at h
    cases List.mem_singleton.mp h
    decide +kernel
  by_cases e2 : k = "call" ∨ k = "index" ∨ k = "field"
  · obtain ⟨m, a, r, hm, rfl, ha⟩ := F.head e2
    have eo : opnds (.tuple (.str k :: a :: r)) = [(("head" : Str), a)] := (if_neg e).trans ((if_neg e1).trans (if_pos e2))
    rw [eo] at h
    cases List.mem_singleton.mp h
    decide +kernel
  have eo : opnds (.tuple (.str k :: ds)) = [] := (if_neg e).trans ((if_neg e1).trans (if_neg e2))
  rw [eo] at h
  cases h
theorem WB4 {m : Nat} (h : m ≤ 4) : WB m ≤ 427600 := by
  have : ∀ {a b : Nat}, a ≤ b → WB a ≤ WB b := by
    intro a b h
    induction h with
    | refl => exact Nat.le_refl _
    | step _ ih =>
      refine Nat.le_trans ih ?_
      show _ ≤ 6 * WB _ + 400
      omega
  exact Nat.le_trans (this h) (by decide)
theorem bools_ok : ∀ bs : List Bool, tameAll (bs.map PyData.bool) = true ∧ PyData.depthAll (bs.map PyData.bool) = 0 ∧ wtAll (bs.map PyData.bool) = bs.length * 7
  | [] => ⟨rfl, rfl, rfl⟩
  | b :: r => by
    obtain ⟨h1, h2, h3⟩ := bools_ok r
    refine ⟨h1, ?_, ?_⟩
    · show max 0 (PyData.depthAll (r.map PyData.bool)) = 0
      rw [h2] <;> rfl
    · show 5 + 2 + wtAll (r.map PyData.bool) = (r.length + 1) * 7
      rw [h3]
      omega
theorem pairs_ok {l : List (Str × PyData)} (h : ∀ p ∈ l, niceStr 6 p.1 = true ∧ Part4 p.2) : tameAll (l.map pairD) = true ∧ PyData.depthAll (l.map pairD) ≤ 14 ∧ wtAll (l.map pairD) ≤ l.length * 427700 := by
  induction l with
  | nil => exact ⟨rfl, Nat.zero_le _, Nat.zero_le _⟩
  | cons p r ih =>
    obtain ⟨h1, h2, h3⟩ := ih fun x hx => h x (List.mem_cons_of_mem _ hx)
    obtain ⟨a1, m, hm, hx⟩ := h p (List.mem_cons_self ..)
    obtain ⟨b1, b2⟩ := nice_str a1
    have c := ex_nice hx
    have cd := c.dp
    have cs := c.sz
    have := WB4 hm
    refine ⟨?_, ?_, ?_⟩
    · show (tame (.tuple [.str p.1, p.2]) && tameAll (r.map pairD)) = true
      rw [t2 b1 c.tm, h1] <;> rfl
    · show max (PyData.tuple [.str p.1, p.2]).depth (PyData.depthAll (r.map pairD)) ≤ 14
      rw [dp2, dps]
      omega
    · show wt (.tuple [.str p.1, p.2]) + 2 + wtAll (r.map pairD) ≤ (r.length + 1) * 427700
      rw [wt2]
      omega
theorem told_ok {n : Nat} {d : PyData} (hn : n ≤ 4) (hx : Ex n d) : OkD (toldD n d) := by
  have hp := pairs_ok (l := opnds d) fun p hp => by
    obtain ⟨⟨m, hm, h1⟩, _, _⟩ := side_of hx (s := p.1) (x := p.2) hp
    exact ⟨side_name hx (x := p.2) hp, m, by omega, h1⟩
  obtain ⟨p1, p2, p3⟩ := hp
  obtain ⟨b1, b2, b3⟩ := bools_ok ((opnds d).map fun p => wantsB d p.1 p.2)
  rw [List.map_map] at b1 b2 b3
  have ll := pairs_len hx
  obtain ⟨l0, l1⟩ := lvl_small hx
  have e : ((opnds d).map fun p => PyData.bool (wantsB d p.1 p.2)) = (opnds d).map (PyData.bool ∘ fun p => wantsB d p.1 p.2) := rfl
  refine ⟨?_, ?_, ?_⟩
  · show (decide ((lvl d).natAbs < 10 ^ 30) && (tameAll ((opnds d).map pairD) && (true && (tameAll ((opnds d).map fun p => PyData.bool (wantsB d p.1 p.2)) && true)))) = true
    rw [e, p1, b1, decide_eq_true (show (lvl d).natAbs < 10 ^ 30 by
      have : (lvl d).natAbs ≤ 10 := by omega
      exact Nat.lt_of_le_of_lt this (by decide +kernel))] <;> rfl
  · show max 0 (max (PyData.depthAll ((opnds d).map pairD) + 1) (max 0 (max (PyData.depthAll ((opnds d).map fun p => PyData.bool (wantsB d p.1 p.2)) + 1) 0))) + 1 ≤ 60
    rw [e, b2]
    omega
  · show 32 + 2 + (wtAll ((opnds d).map pairD) + 4 + 2 + (5 + 2 + (wtAll ((opnds d).map fun p => PyData.bool (wantsB d p.1 p.2)) + 4 + 2 + 0))) + 4 ≤ 16000000
    rw [e, b3, List.length_map]
    omega

theorem c_l_alike (T : Txt K mg w) : CalG P w K mg base 1 "_law_alike" (spAlike K) := by
  refine calGOf T.d_l_alike sc_l_alike (fun vs H Q E h => ?_) (fun f cdv A outer s H vs Q E hr gd h => ?_)
  · obtain ⟨a, b, d, rfl, _⟩ := h
    rfl
  · obtain ⟨a, b, d, rfl, ha, hb, ok, k⟩ := h
    have hu := hr.units
    refine ⟨_,
      (pss_one (ps_ret (pe_and (pe_cmpR (op_eqD hr.units) (pv 0) (pv 1) (nomark _)) (pe_one (pe_cmpR op_eq (pe_callB (call_repr gd hu) (by rfl) T.n_repr (by decide +kernel) (pa_cons (pv 0) pa_nil)) (pe_callB (call_repr gd hu) (by rfl) T.n_repr (by decide +kernel) (pa_cons (pv 1) pa_nil)) (nomark _))))))
      , ?_⟩
    refine ⟨_, rfl, _, rfl, d, d, ha, hb, ok.shaped, ok.shaped, _, rfl, ?_⟩
    rw [ok.refl]
    refine iteT ?_
    refine ⟨_, rfl, a, d, rfl, ha, ok, _, rfl, b, d, rfl, hb, ok, rfl, ?_⟩
    rw [decide_eq_true rfl]
    exact k H (Same.refl H)

def spLaw8 (K : PySem.W.Frag) : Sp := fun vs H Q _ => ∃ (a : Addr) (ns : List Int), vs = [.ref a] ∧ SqL K H a (ns.map V.int) ∧ ns.length ≤ 63 ∧ ∀ H', Q (.bl true) H'
theorem pairs_at {H : Hp} {xs : List V} {l : List (Str × PyData)} (t : TrAll H xs (l.map pairD)) {i : Nat} {y : V} (h : xs[i]? = some y) :
    ∃ s x q vx, l[i]? = some (s, x) ∧ y = .ref q ∧ H q = some (.tup [.str s, vx]) ∧ Tr H vx x := by
  obtain ⟨d, hd, ty⟩ := t.get h
  rw [List.getElem?_map] at hd
  obtain ⟨⟨s, x⟩, hp, rfl⟩ := Option.map_eq_some_iff.mp hd
  cases ty with
  | tup h2 r2 =>
    cases r2 with
    | cons p1 r2 =>
      cases p1
      cases r2 with
      | cons p2 r2 =>
        cases r2
        exact ⟨s, x, _, _, hp, rfl, h2, p2⟩
theorem bools_dp {H : Hp} (l : List (Str × PyData)) (f : Str × PyData → Bool) : DpAll K H (l.map fun p => V.bl (f p)) (l.map fun p => PyData.bool (f p)) := by
  induction l with
  | nil => exact .nil
  | cons p r ih => exact .cons (.bl _) ih
theorem fn_law (T : Txt K mg w) {f : Addr} {fd : FuncData} (F : Fun K "law" "law" s_p_law f fd) (c_l_bag : Cal P w K mg base 1 "_law_bag" (spBag K) []) (c_l_one : Cal P w K mg base 2 "_law_one" (spOne K) [])
    (c_l_expression : Cal P w K mg base 10 "_law_expression" (spPart 5) []) (c_l_expressions_in : Cal P w K mg base 2 "_law_expressions_in" (spExIn K) [])
    (c_l_operands : Cal P w K mg base 1 "_law_operands" spOperands []) (c_p_operands : Cal P w K mg base 1 "operands" spOperands [])
    (c_p_level_of : Cal P w K mg base 1 "level_of" (spOf fun d => .int (lvl d)) []) (c_l_level : Cal P w K mg base 2 "_law_level" (spOf fun d => .int (lvl d)) [])
    (c_p_ends_in_fn : Cal P w K mg base 4 "ends_in_fn" (spEnds fun n d => .bl (endF n d)) []) (c_l_has_fn_end : Cal P w K mg base 8 "_law_has_fn_end" (spEndsB 5) [])
    (c_p_wants_brackets : Cal P w K mg base 3 "wants_brackets" spWants []) (c_l_wants : Cal P w K mg base 3 "_law_wants" spWantsL [])
    (c_l_alike : CalG P w K mg base 1 "_law_alike" (spAlike K)) : FnG P w K mg base 11 f fd ["_law_script"] (spLaw8 K) := by
  refine fnG_of F sc_p_law (fun vs H Q E h => ?_) (fun cdv A outer s H vs Q E hr gd h => ?_)
  · obtain ⟨a, ns, rfl, _⟩ := h
    rfl
  · obtain ⟨a, ns, rfl, hq, hl, k⟩ := h
    refine ⟨_,
      (pss_cons (ps_set (i := 1) sc_p_law.nd rfl (Or.inl rfl) (pe_c c_l_bag hr (by first | decide | omega) rfl (pa_cons (pv 0) pa_nil)))
        (pss_cons (ps_for PassesOwn.never rfl (pi_range1 (by rfl) T.n_range (pa_cons pe_int pa_nil)) (pg_name (i := 2) sc_p_law.nd rfl (Or.inl rfl))
        (pss_cons (ps_set (i := 3) sc_p_law.nd rfl (Or.inl rfl) (pe_c c_l_expression hr (by first | decide | omega) rfl (pa_cons (pv 1) (pa_cons (pe_c c_l_one hr (by first | decide | omega) rfl (pa_cons (pv 1) (pa_cons (pe_lst (pa_cons pe_int (pa_cons pe_int (pa_cons pe_int pa_nil)))) pa_nil))) pa_nil))))
        (pss_one (ps_for PassesOwn.never rfl (pi_list (pe_c c_l_expressions_in hr (by first | decide | omega) rfl (pa_cons (pv 3) pa_nil))) (pg_name (i := 4) sc_p_law.nd rfl (Or.inr rfl))
        (pss_cons (ps_set (i := 5) sc_p_law.nd rfl (Or.inl rfl) (pe_c c_l_operands hr (by first | decide | omega) rfl (pa_cons (pv 4) pa_nil)))
        (pss_cons (ps_set (i := 6) sc_p_law.nd rfl (Or.inl rfl) (pe_lst (pa_cons (pe_c c_p_level_of hr (by first | decide | omega) rfl (pa_cons (pv 4) pa_nil)) (pa_cons (pe_c c_p_operands hr (by first | decide | omega) rfl (pa_cons (pv 4) pa_nil)) (pa_cons (pe_c c_p_ends_in_fn hr (by first | decide | omega) rfl (pa_cons (pv 4) pa_nil)) (pa_cons (pe_lc (own := [("_law_side", 8), ("_law_operand", 9)]) (g := gTup K 2 (gCons (gName 8) (gCons (gName 9) gNil))) (tt := tYes) rfl sc_p_law.nd (pi_tup (pv 5)) (blkOk_by (N := ["_law_script", "_law_bag_here", "_law_turn", "_law_tree", "_law_one_here", "_law_due", "_law_told", "_law_wants_here", "_law_side", "_law_operand"]) (sc := defScope s_p_law) (by decide +kernel)) (fun _ _ _ _ _ => (pg_tup rfl (pgs_cons (pg_name (i := 8) sc_p_law.nd rfl (Or.inl rfl)) (pgs_cons (pg_name (i := 9) sc_p_law.nd rfl (Or.inl rfl)) pgs_nil)))) (fun _ _ _ _ _ => pts_nil) (fun _ _ _ _ _ => (pe_c c_p_wants_brackets hr (by first | decide | omega) rfl (pa_cons (pv 4) (pa_cons (pv 8) pa_nil))))) pa_nil))))))
        (pss_cons (ps_setLc (i := 7) (own := [("_law_side", 8), ("_law_operand", 9)]) (g := gTup K 2 (gCons (gName 8) (gCons (gName 9) gNil))) (tt := tYes) rfl sc_p_law.nd rfl rfl (sw_true rfl rfl rfl (by decide +kernel)) (pi_tup (pv 5)) (blkOk_by (N := ["_law_script", "_law_bag_here", "_law_turn", "_law_tree", "_law_one_here", "_law_due", "_law_told", "_law_wants_here", "_law_side", "_law_operand"]) (sc := defScope s_p_law) (by decide +kernel)) (fun _ _ _ _ _ => (pg_tup rfl (pgs_cons (pg_name (i := 8) sc_p_law.nd rfl (Or.inl rfl)) (pgs_cons (pg_name (i := 9) sc_p_law.nd rfl (Or.inl rfl)) pgs_nil)))) (fun _ _ _ _ _ => pts_nil) (fun _ _ _ _ _ => (pe_c c_l_wants hr (by first | decide | omega) rfl (pa_cons (pv 4) (pa_cons (pv 8) (pa_cons (pv 9) pa_nil))))))
        (pss_one (ps_if (pt_not (pt_val (pe_cG c_l_alike (hr.mono (by decide)) gd rfl (pa_cons (pv 6) (pa_cons (pe_lst (pa_cons (pe_c c_l_level hr (by first | decide | omega) rfl (pa_cons (pv 4) pa_nil)) (pa_cons (pv 5) (pa_cons (pe_c c_l_has_fn_end hr (by first | decide | omega) rfl (pa_cons (pv 4) pa_nil)) (pa_cons (pv 7) pa_nil))))) pa_nil)))))
        (pss_one (ps_ret pe_bl))
        pss_nil)))))))))
        (pss_one (ps_ret pe_bl))))
      , ?_⟩
    refine ⟨_, rfl, a, ns, rfl, hq, hl, fun g H0 _ B0 => ?_⟩
    refine ⟨8, rfl, by decide, by decide, ?_⟩
    refine for_range (lo := 0) (n := 8) (fun i σ H' => ∃ (v2 v3 v4 v5 v6 v7 v8 v9 : Option V) (e : Int), σ = [some (.ref a), some (.ref g.b), v2, v3, v4, v5, v6, v7, v8, v9] ∧ Bag H' g 0 e) ⟨none, none, none, none, none, none, none, none, 0, rfl, B0⟩ ?_ ?_
    · rintro i σ H1 hi ⟨v2, v3, v4, v5, v6, v7, v8, v9, e, rfl, B1⟩
      refine ⟨_, rfl, _, rfl, by decide, fun p hp => ?_⟩
      have B2 : Bag (upd H1 p (.lst [.int 3, .int 4, .int 2])) g 0 e := B1.new hp
      refine ⟨g, _, 0, e, rfl, B2, .inl ⟨p, _, rfl, .inl (SqL.of upd_same), B1.ne_new hp, by decide, by decide, fun v H2 hv D2 => ?_⟩⟩
      obtain ⟨n, hn, rfl⟩ : ∃ n : Nat, n ≤ 4 ∧ v = .int n := by
        simp only [List.mem_cons, List.not_mem_nil, or_false] at hv
        rcases hv with rfl | rfl | rfl
        · exact ⟨3, by decide, rfl⟩
        · exact ⟨4, by decide, rfl⟩
        · exact ⟨2, by decide, rfl⟩
      refine ⟨g, n, 0, e, rfl, by omega, D2.bag, fun vt dt H3 e3 hxt htt D3 => ?_⟩
      refine ⟨_, rfl, vt, dt, n, rfl, hn, hxt, htt, fun Lp H4 fs fds s4 hLp aL tF pF => ?_⟩
      have B4 := D3.bag.same s4
      refine ⟨Lp, rfl, ⟨_, SqL.of aL⟩, ?_⟩
      refine for_list (K := K) (a := Lp) (xs := fs) (fun j σ H' => ∃ (v4 v5 v6 v7 v8 v9 : Option V), σ = [some (.ref a), some (.ref g.b), some (.int (0 + (i : Nat))), some vt, v4, v5, v6, v7, v8, v9] ∧ Same H4 H')
        ⟨v4, v5, v6, v7, v8, v9, rfl, Same.refl _⟩ (fun j σ H' _ ⟨_, _, _, _, _, _, _, s5⟩ => SqL.of (s5 _ _ aL)) ?_ ?_
      · rintro j y σ H5 hj ⟨w4, w5, w6, w7, w8, w9, rfl, s5⟩
        obtain ⟨d, hd, ty⟩ := tF.get hj
        obtain ⟨m, hm, hx⟩ := pF d (List.mem_of_getElem? hd)
        have ty := ty.keep (Tk.of s5)
        have ll := pairs_len hx
        -- due
        refine ⟨_, rfl, y, d, m, rfl, hx, ty, fun vd H6 s6 td => ?_⟩
        have s56 := s5.trans s6
        have ty6 := ty.keep (Tk.of s6)
        obtain ⟨q, xs, rfl, hq6, tq6⟩ : ∃ q xs, vd = .ref q ∧ H6 q = some (.tup xs) ∧ TrAll H6 xs ((opnds d).map pairD) := by
          generalize (opnds d).map pairD = pd at td
          cases td with
          | tup h1 h2 => exact ⟨_, _, rfl, h1, h2⟩
        have lxs : xs.length = (opnds d).length := by
          rw [tq6.len, List.length_map]
        -- told
        refine ⟨_, rfl, y, d, m, rfl, hx, ty6, fun H7 s7 => ?_⟩
        refine ⟨_, rfl, y, d, m, rfl, hx, ty6.keep (Tk.of s7), fun vo H8 s8 to8 => ?_⟩
        have s68 := s7.trans s8
        refine ⟨_, rfl, y, d, m, rfl, hx, ty6.keep (Tk.of s68), fun H9 s9 => ?_⟩
        have s69 := s68.trans s9
        have ty9 := ty6.keep (Tk.of s69)
        refine ⟨_, rfl, q, rfl, ⟨_, SqT.of (s69 _ _ hq6)⟩, fun D hD => ?_⟩
        refine lc_tup (K := K) (a := q) (xs := xs) (fun i H' => H' D = some (.lst (((opnds d).take i).map fun p => V.bl (wantsB d p.1 p.2))) ∧ Same H9 H') ⟨upd_same, same_put (Same.refl _) hD⟩ (fun i H' _ ⟨_, s10⟩ => SqT.of (s10 _ _ (s69 _ _ hq6))) ?_ ?_
        · rintro i x H' hi' ⟨hdd, s10⟩
          obtain ⟨sd, xo, b, vx, hl', rfl, hb, tvx⟩ := pairs_at (tq6.keep (Tk.of (s69.trans s10))) hi'
          have hmem := List.mem_of_getElem? hl'
          have li := (List.getElem?_eq_some_iff.mp hl').1
          refine ⟨b, _, rfl, SqT.of hb, rfl, _, _, rfl, _, _, rfl, rfl, rfl, _, rfl, _, rfl, y, d, m, sd, xo, rfl, hx, ty9.keep (Tk.of s10), hmem, fun H11 s11 => ?_⟩
          refine ⟨_, s11 _ _ hdd, ?_, ?_, same_put (s10.trans s11) hD⟩
          · rw [List.length_map, List.length_take]
            exact Nat.lt_of_le_of_lt (Nat.min_le_left _ _) (Nat.lt_of_lt_of_le (show i < 100 by omega) (by decide))
          · rw [upd_same, List.take_add_one, hl', List.map_append]
            rfl
        · rintro H10 ⟨hdd, s10⟩
          rw [lxs, List.take_length] at hdd
          refine ⟨by show 4 ≤ sizeLine; decide, fun R hR => ?_⟩
          have s11 := (s69.trans s10).trans (same_new (o := .lst [.int (lvl d), vo, .bl (endF m d), .ref D]) hR)
          have aR : upd H10 R (.lst [.int (lvl d), vo, .bl (endF m d), .ref D]) R = some (.lst [.int (lvl d), vo, .bl (endF m d), .ref D]) := upd_same
          have aD := upd_some (u := .lst [.int (lvl d), vo, .bl (endF m d), .ref D]) hdd hR
          have to11 := (to8.keep (Tk.of (s9.trans s10))).new (o := .lst [.int (lvl d), vo, .bl (endF m d), .ref D]) hR
          generalize upd H10 R (HO.lst [.int (lvl d), vo, .bl (endF m d), .ref D]) = H11 at s11 aR aD to11 ⊢
          have ty11 := ty6.keep (Tk.of s11)
          -- the law's own
          refine ⟨_, rfl, q, rfl, ⟨_, SqT.of (s11 _ _ hq6)⟩, fun D2 hD2 => ?_⟩
          refine lc_tup (K := K) (a := q) (xs := xs) (fun i H' => H' D2 = some (.lst (((opnds d).take i).map fun p => V.bl (wantsB d p.1 p.2))) ∧ Same H11 H') ⟨upd_same, same_put (Same.refl _) hD2⟩ (fun i H' _ ⟨_, s12⟩ => SqT.of (s12 _ _ (s11 _ _ hq6))) ?_ ?_
          · rintro i x H' hi' ⟨hd2, s12⟩
            obtain ⟨sd, xo, b, vx, hl', rfl, hb, tvx⟩ := pairs_at (tq6.keep (Tk.of (s11.trans s12))) hi'
            have hmem := List.mem_of_getElem? hl'
            have li := (List.getElem?_eq_some_iff.mp hl').1
            refine ⟨b, _, rfl, SqT.of hb, rfl, _, _, rfl, _, _, rfl, rfl, rfl, _, rfl, _, rfl, _, rfl, y, vx, d, m, sd, xo, rfl, hx, ty11.keep (Tk.of s12), hmem, tvx, fun H13 s13 => ?_⟩
            refine ⟨_, s13 _ _ hd2, ?_, ?_, same_put (s12.trans s13) hD2⟩
            · rw [List.length_map, List.length_take]
              exact Nat.lt_of_le_of_lt (Nat.min_le_left _ _) (Nat.lt_of_lt_of_le (show i < 100 by omega) (by decide))
            · rw [upd_same, List.take_add_one, hl', List.map_append]
              rfl
          · rintro H12 ⟨hd2, s12⟩
            rw [lxs, List.take_length] at hd2
            refine ⟨_, rfl, _, rfl, y, d, m, rfl, hx, ty11.keep (Tk.of s12), fun H13 s13 => ?_⟩
            refine ⟨_, rfl, _, rfl, y, d, m, rfl, by omega, hx, ty11.keep (Tk.of (s12.trans s13)), fun H14 s14 => ⟨_, rfl, by show 4 ≤ sizeLine; decide, fun R2 hR2 => ?_⟩⟩
            have s1114 := s12.trans (s13.trans s14)
            have sn := same_new (o := .lst [.int (lvl d), .ref q, .bl (endF m d), .ref D2]) hR2
            refine ⟨R, R2, toldD m d, rfl, ?_, ?_, told_ok (by omega) hx, fun H15 s15 => ⟨_, rfl, ?_⟩⟩
            · refine .lst (SqL.of (sn _ _ (s1114 _ _ aR))) (.cons (.int _) (.cons ((to11.keep (Tk.of (s1114.trans sn))).dp) (.cons (.bl _) (.cons (.lst (SqL.of (sn _ _ (s1114 _ _ aD))) (bools_dp _ fun p => wantsB d p.1 p.2)) .nil))))
            · refine .lst (SqL.of upd_same) (.cons (.int _) (.cons ((Tr.tup (s11.trans (s1114.trans sn) _ _ hq6) (tq6.keep (Tk.of (s11.trans (s1114.trans sn))))).dp) (.cons (.bl _) (.cons (.lst (SqL.of (sn _ _ (s13.trans s14 _ _ hd2))) (bools_dp _ fun p => wantsB d p.1 p.2)) .nil))))
            · refine iteF ?_
              exact ⟨_, _, _, _, _, _, rfl, s56.trans (s11.trans (s1114.trans (sn.trans s15)))⟩
      · rintro σ H5 ⟨w4, w5, w6, w7, w8, w9, rfl, s5⟩
        exact ⟨_, _, _, _, _, _, _, _, e3, rfl, B4.same s5⟩
    · rintro σ H1 ⟨v2, v3, v4, v5, v6, v7, v8, v9, e, rfl, B1⟩
      exact k H1

theorem part_at (T : Txt K mg w) (c_l_take : Cal P w K mg base 1 "_law_take" spTake []) (c_l_one : Cal P w K mg base 2 "_law_one" (spOne K) [])
    (c_l_name : Cal P w K mg base 3 "_law_name" spName []) (c_l_names : Cal P w K mg base 4 "_law_names" spNames []) (c_l_atom : Cal P w K mg base 4 "_law_atom" spAtom []) :
    ∀ m, Cal P w K mg base (4 + m) "_law_part" (spPart m) []
  | 0 => part_none T
  | m + 1 => c_l_part T c_l_take c_l_one c_l_name c_l_names c_l_atom (part_at T c_l_take c_l_one c_l_name c_l_names c_l_atom m)
theorem fn_at (T : Txt K mg w) (c_l_level : Cal P w K mg base 2 "_law_level" (spOf fun d => .int (lvl d)) []) (c_l_sides : Cal P w K mg base 2 "_law_sides" spSides []) :
    ∀ m, Cal P w K mg base (3 + m) "_law_has_fn_end" (spEndsB m) []
  | 0 => fn_none T
  | m + 1 => c_l_has_fn_end T c_l_level c_l_sides (fn_at T c_l_level c_l_sides m)
theorem law_all (T : Txt K mg w) {f : Addr} {fd : FuncData} (F : Fun K "law" "law" s_p_law f fd) : FnG P w K mg base 11 f fd ["_law_script"] (spLaw8 K) := by
  have take : Cal P w K mg base 1 "_law_take" spTake [] := c_l_take T
  have one : Cal P w K mg base 2 "_law_one" (spOne K) [] := c_l_one T take
  have kw : Cal P w K mg base 1 "_law_keywords" spKws [] := c_l_keywords T
  have name : Cal P w K mg base 3 "_law_name" spName [] := c_l_name T take one kw
  have atom : Cal P w K mg base 4 "_law_atom" spAtom [] := c_l_atom T take one name
  have names : Cal P w K mg base 4 "_law_names" spNames [] := c_l_names T one name
  have part : Cal P w K mg base (4 + 5) "_law_part" (spPart 5) [] := part_at T take one name names atom 5
  have lev : Cal P w K mg base 1 "level_of" (spOf fun d => .int (lvl d)) [] := c_p_level_of T
  have ops : Cal P w K mg base 1 "operands" spOperands [] := c_p_operands T
  have opat : Cal P w K mg base 2 "operand_at" spOpAt [] := c_p_operand_at T ops
  have want : Cal P w K mg base 3 "wants_brackets" spWants [] := c_p_wants_brackets T lev (c_p_least_level T lev) opat
  have sgn : Cal P w K mg base 1 "_law_sign_level" spSign [] := c_l_sign_level T
  have sides : Cal P w K mg base 2 "_law_sides" spSides [] := c_l_sides T sgn
  have llev : Cal P w K mg base 2 "_law_level" (spOf fun d => .int (lvl d)) [] := c_l_level T sgn
  exact fn_law T F (c_l_bag T) one (c_l_expression T part) (c_l_expressions_in T (c_l_flat T)) (c_l_operands T) ops lev llev (c_p_ends_in_fn T want opat) (fn_at T llev sides 5) want (c_l_wants T llev sides) (c_l_alike T)
end

theorem all_mk {l : PySem.W.OpenLaw} {w : World} {K : PySem.W.Frag} {h : Heap} {mg : Str → Option Value} {fa : Addr} (X : K.In h) (G : h.Ns mainGlobals mg) (hfa : mg "law" = some (.ref fa))
    {f0 : Addr} {od0 an0 : Option Addr} {sl0 : Array (Option Value)} {oc0 kV0 dc0 pm0 cd0 ct0 : Value}
    {f1 : Addr} {od1 an1 : Option Addr} {sl1 : Array (Option Value)} {oc1 kV1 dc1 pm1 cd1 ct1 : Value}
    {f2 : Addr} {od2 an2 : Option Addr} {sl2 : Array (Option Value)} {oc2 kV2 dc2 pm2 cd2 ct2 : Value}
    {f3 : Addr} {od3 an3 : Option Addr} {sl3 : Array (Option Value)} {oc3 kV3 dc3 pm3 cd3 ct3 : Value}
    {f4 : Addr} {od4 an4 : Option Addr} {sl4 : Array (Option Value)} {oc4 kV4 dc4 pm4 cd4 ct4 : Value}
    {f5 : Addr} {od5 an5 : Option Addr} {sl5 : Array (Option Value)} {oc5 kV5 dc5 pm5 cd5 ct5 : Value}
    {f6 : Addr} {od6 an6 : Option Addr} {sl6 : Array (Option Value)} {oc6 kV6 dc6 pm6 cd6 ct6 : Value}
    {f7 : Addr} {od7 an7 : Option Addr} {sl7 : Array (Option Value)} {oc7 kV7 dc7 pm7 cd7 ct7 : Value}
    {f8 : Addr} {od8 an8 : Option Addr} {sl8 : Array (Option Value)} {oc8 kV8 dc8 pm8 cd8 ct8 : Value}
    {f9 : Addr} {od9 an9 : Option Addr} {sl9 : Array (Option Value)} {oc9 kV9 dc9 pm9 cd9 ct9 : Value}
    {f10 : Addr} {od10 an10 : Option Addr} {sl10 : Array (Option Value)} {oc10 kV10 dc10 pm10 cd10 ct10 : Value}
    {f11 : Addr} {od11 an11 : Option Addr} {sl11 : Array (Option Value)} {oc11 kV11 dc11 pm11 cd11 ct11 : Value}
    {f12 : Addr} {od12 an12 : Option Addr} {sl12 : Array (Option Value)} {oc12 kV12 dc12 pm12 cd12 ct12 : Value}
    {f13 : Addr} {od13 an13 : Option Addr} {sl13 : Array (Option Value)} {oc13 kV13 dc13 pm13 cd13 ct13 : Value}
    {f14 : Addr} {od14 an14 : Option Addr} {sl14 : Array (Option Value)} {oc14 kV14 dc14 pm14 cd14 ct14 : Value}
    {f15 : Addr} {od15 an15 : Option Addr} {sl15 : Array (Option Value)} {oc15 kV15 dc15 pm15 cd15 ct15 : Value}
    {f16 : Addr} {od16 an16 : Option Addr} {sl16 : Array (Option Value)} {oc16 kV16 dc16 pm16 cd16 ct16 : Value}
    {f17 : Addr} {od17 an17 : Option Addr} {sl17 : Array (Option Value)} {oc17 kV17 dc17 pm17 cd17 ct17 : Value}
    {f18 : Addr} {od18 an18 : Option Addr} {sl18 : Array (Option Value)} {oc18 kV18 dc18 pm18 cd18 ct18 : Value}
    {f19 : Addr} {od19 an19 : Option Addr} {sl19 : Array (Option Value)} {oc19 kV19 dc19 pm19 cd19 ct19 : Value}
    {f20 : Addr} {od20 an20 : Option Addr} {sl20 : Array (Option Value)} {oc20 kV20 dc20 pm20 cd20 ct20 : Value}
    {f21 : Addr} {od21 an21 : Option Addr} {sl21 : Array (Option Value)} {oc21 kV21 dc21 pm21 cd21 ct21 : Value}
    {f22 : Addr} {od22 an22 : Option Addr} {sl22 : Array (Option Value)} {oc22 kV22 dc22 pm22 cd22 ct22 : Value}
    {f23 : Addr} {od23 an23 : Option Addr} {sl23 : Array (Option Value)} {oc23 kV23 dc23 pm23 cd23 ct23 : Value}
    {f24 : Addr} {od24 an24 : Option Addr} {sl24 : Array (Option Value)} {oc24 kV24 dc24 pm24 cd24 ct24 : Value}
    {e_OPERATORS : Addr} {es_OPERATORS : Array DictEntry} {en_OPERATORS : Nat}
    {e_LEVELS : Addr} {es_LEVELS : Array DictEntry} {en_LEVELS : Nat}
    {e_LEAST_LEFT : Addr} {es_LEAST_LEFT : Array DictEntry} {en_LEAST_LEFT : Nat}
    {e_LEAST_RIGHT : Addr} {es_LEAST_RIGHT : Array DictEntry} {en_LEAST_RIGHT : Nat}
    (a0 : PySem.W.nsIn K mainGlobals "level_of" = some (some (.ref f0))) (l0 : K.lookup f0 = some ⟨oc0, od0, .func (PySem.W.fnOf "level_of" "level_of" (defArgs s_p_level_of) (defBody s_p_level_of) (defScope s_p_level_of) .none kV0 dc0 pm0 an0 cd0 ct0), sl0⟩) (c0 : PySem.W.codeIn K cd0 "level_of" = true) (k0 : PySem.W.keepIn K (.ref f0) = true)
    (a1 : PySem.W.nsIn K mainGlobals "operands" = some (some (.ref f1))) (l1 : K.lookup f1 = some ⟨oc1, od1, .func (PySem.W.fnOf "operands" "operands" (defArgs s_p_operands) (defBody s_p_operands) (defScope s_p_operands) .none kV1 dc1 pm1 an1 cd1 ct1), sl1⟩) (c1 : PySem.W.codeIn K cd1 "operands" = true) (k1 : PySem.W.keepIn K (.ref f1) = true)
    (a2 : PySem.W.nsIn K mainGlobals "_least_level" = some (some (.ref f2))) (l2 : K.lookup f2 = some ⟨oc2, od2, .func (PySem.W.fnOf "_least_level" "_least_level" (defArgs s_p_least_level) (defBody s_p_least_level) (defScope s_p_least_level) .none kV2 dc2 pm2 an2 cd2 ct2), sl2⟩) (c2 : PySem.W.codeIn K cd2 "_least_level" = true) (k2 : PySem.W.keepIn K (.ref f2) = true)
    (a3 : PySem.W.nsIn K mainGlobals "operand_at" = some (some (.ref f3))) (l3 : K.lookup f3 = some ⟨oc3, od3, .func (PySem.W.fnOf "operand_at" "operand_at" (defArgs s_p_operand_at) (defBody s_p_operand_at) (defScope s_p_operand_at) .none kV3 dc3 pm3 an3 cd3 ct3), sl3⟩) (c3 : PySem.W.codeIn K cd3 "operand_at" = true) (k3 : PySem.W.keepIn K (.ref f3) = true)
    (a4 : PySem.W.nsIn K mainGlobals "wants_brackets" = some (some (.ref f4))) (l4 : K.lookup f4 = some ⟨oc4, od4, .func (PySem.W.fnOf "wants_brackets" "wants_brackets" (defArgs s_p_wants_brackets) (defBody s_p_wants_brackets) (defScope s_p_wants_brackets) .none kV4 dc4 pm4 an4 cd4 ct4), sl4⟩) (c4 : PySem.W.codeIn K cd4 "wants_brackets" = true) (k4 : PySem.W.keepIn K (.ref f4) = true)
    (a5 : PySem.W.nsIn K mainGlobals "ends_in_fn" = some (some (.ref f5))) (l5 : K.lookup f5 = some ⟨oc5, od5, .func (PySem.W.fnOf "ends_in_fn" "ends_in_fn" (defArgs s_p_ends_in_fn) (defBody s_p_ends_in_fn) (defScope s_p_ends_in_fn) .none kV5 dc5 pm5 an5 cd5 ct5), sl5⟩) (c5 : PySem.W.codeIn K cd5 "ends_in_fn" = true) (k5 : PySem.W.keepIn K (.ref f5) = true)
    (a6 : PySem.W.nsIn K mainGlobals "_law_bag" = some (some (.ref f6))) (l6 : K.lookup f6 = some ⟨oc6, od6, .func (PySem.W.fnOf "_law_bag" "_law_bag" (defArgs s_l_bag) (defBody s_l_bag) (defScope s_l_bag) .none kV6 dc6 pm6 an6 cd6 ct6), sl6⟩) (c6 : PySem.W.codeIn K cd6 "_law_bag" = true) (k6 : PySem.W.keepIn K (.ref f6) = true)
    (a7 : PySem.W.nsIn K mainGlobals "_law_take" = some (some (.ref f7))) (l7 : K.lookup f7 = some ⟨oc7, od7, .func (PySem.W.fnOf "_law_take" "_law_take" (defArgs s_l_take) (defBody s_l_take) (defScope s_l_take) .none kV7 dc7 pm7 an7 cd7 ct7), sl7⟩) (c7 : PySem.W.codeIn K cd7 "_law_take" = true) (k7 : PySem.W.keepIn K (.ref f7) = true)
    (a8 : PySem.W.nsIn K mainGlobals "_law_one" = some (some (.ref f8))) (l8 : K.lookup f8 = some ⟨oc8, od8, .func (PySem.W.fnOf "_law_one" "_law_one" (defArgs s_l_one) (defBody s_l_one) (defScope s_l_one) .none kV8 dc8 pm8 an8 cd8 ct8), sl8⟩) (c8 : PySem.W.codeIn K cd8 "_law_one" = true) (k8 : PySem.W.keepIn K (.ref f8) = true)
    (a9 : PySem.W.nsIn K mainGlobals "_law_keywords" = some (some (.ref f9))) (l9 : K.lookup f9 = some ⟨oc9, od9, .func (PySem.W.fnOf "_law_keywords" "_law_keywords" (defArgs s_l_keywords) (defBody s_l_keywords) (defScope s_l_keywords) .none kV9 dc9 pm9 an9 cd9 ct9), sl9⟩) (c9 : PySem.W.codeIn K cd9 "_law_keywords" = true) (k9 : PySem.W.keepIn K (.ref f9) = true)
    (a10 : PySem.W.nsIn K mainGlobals "_law_name" = some (some (.ref f10))) (l10 : K.lookup f10 = some ⟨oc10, od10, .func (PySem.W.fnOf "_law_name" "_law_name" (defArgs s_l_name) (defBody s_l_name) (defScope s_l_name) .none kV10 dc10 pm10 an10 cd10 ct10), sl10⟩) (c10 : PySem.W.codeIn K cd10 "_law_name" = true) (k10 : PySem.W.keepIn K (.ref f10) = true)
    (a11 : PySem.W.nsIn K mainGlobals "_law_atom" = some (some (.ref f11))) (l11 : K.lookup f11 = some ⟨oc11, od11, .func (PySem.W.fnOf "_law_atom" "_law_atom" (defArgs s_l_atom) (defBody s_l_atom) (defScope s_l_atom) .none kV11 dc11 pm11 an11 cd11 ct11), sl11⟩) (c11 : PySem.W.codeIn K cd11 "_law_atom" = true) (k11 : PySem.W.keepIn K (.ref f11) = true)
    (a12 : PySem.W.nsIn K mainGlobals "_law_names" = some (some (.ref f12))) (l12 : K.lookup f12 = some ⟨oc12, od12, .func (PySem.W.fnOf "_law_names" "_law_names" (defArgs s_l_names) (defBody s_l_names) (defScope s_l_names) .none kV12 dc12 pm12 an12 cd12 ct12), sl12⟩) (c12 : PySem.W.codeIn K cd12 "_law_names" = true) (k12 : PySem.W.keepIn K (.ref f12) = true)
    (a13 : PySem.W.nsIn K mainGlobals "_law_part" = some (some (.ref f13))) (l13 : K.lookup f13 = some ⟨oc13, od13, .func (PySem.W.fnOf "_law_part" "_law_part" (defArgs s_l_part) (defBody s_l_part) (defScope s_l_part) .none kV13 dc13 pm13 an13 cd13 ct13), sl13⟩) (c13 : PySem.W.codeIn K cd13 "_law_part" = true) (k13 : PySem.W.keepIn K (.ref f13) = true)
    (a14 : PySem.W.nsIn K mainGlobals "_law_expression" = some (some (.ref f14))) (l14 : K.lookup f14 = some ⟨oc14, od14, .func (PySem.W.fnOf "_law_expression" "_law_expression" (defArgs s_l_expression) (defBody s_l_expression) (defScope s_l_expression) .none kV14 dc14 pm14 an14 cd14 ct14), sl14⟩) (c14 : PySem.W.codeIn K cd14 "_law_expression" = true) (k14 : PySem.W.keepIn K (.ref f14) = true)
    (a15 : PySem.W.nsIn K mainGlobals "_law_flat" = some (some (.ref f15))) (l15 : K.lookup f15 = some ⟨oc15, od15, .func (PySem.W.fnOf "_law_flat" "_law_flat" (defArgs s_l_flat) (defBody s_l_flat) (defScope s_l_flat) .none kV15 dc15 pm15 an15 cd15 ct15), sl15⟩) (c15 : PySem.W.codeIn K cd15 "_law_flat" = true) (k15 : PySem.W.keepIn K (.ref f15) = true)
    (a16 : PySem.W.nsIn K mainGlobals "_law_expressions_in" = some (some (.ref f16))) (l16 : K.lookup f16 = some ⟨oc16, od16, .func (PySem.W.fnOf "_law_expressions_in" "_law_expressions_in" (defArgs s_l_expressions_in) (defBody s_l_expressions_in) (defScope s_l_expressions_in) .none kV16 dc16 pm16 an16 cd16 ct16), sl16⟩) (c16 : PySem.W.codeIn K cd16 "_law_expressions_in" = true) (k16 : PySem.W.keepIn K (.ref f16) = true)
    (a17 : PySem.W.nsIn K mainGlobals "_law_operands" = some (some (.ref f17))) (l17 : K.lookup f17 = some ⟨oc17, od17, .func (PySem.W.fnOf "_law_operands" "_law_operands" (defArgs s_l_operands) (defBody s_l_operands) (defScope s_l_operands) .none kV17 dc17 pm17 an17 cd17 ct17), sl17⟩) (c17 : PySem.W.codeIn K cd17 "_law_operands" = true) (k17 : PySem.W.keepIn K (.ref f17) = true)
    (a18 : PySem.W.nsIn K mainGlobals "_law_sign_level" = some (some (.ref f18))) (l18 : K.lookup f18 = some ⟨oc18, od18, .func (PySem.W.fnOf "_law_sign_level" "_law_sign_level" (defArgs s_l_sign_level) (defBody s_l_sign_level) (defScope s_l_sign_level) .none kV18 dc18 pm18 an18 cd18 ct18), sl18⟩) (c18 : PySem.W.codeIn K cd18 "_law_sign_level" = true) (k18 : PySem.W.keepIn K (.ref f18) = true)
    (a19 : PySem.W.nsIn K mainGlobals "_law_sides" = some (some (.ref f19))) (l19 : K.lookup f19 = some ⟨oc19, od19, .func (PySem.W.fnOf "_law_sides" "_law_sides" (defArgs s_l_sides) (defBody s_l_sides) (defScope s_l_sides) .none kV19 dc19 pm19 an19 cd19 ct19), sl19⟩) (c19 : PySem.W.codeIn K cd19 "_law_sides" = true) (k19 : PySem.W.keepIn K (.ref f19) = true)
    (a20 : PySem.W.nsIn K mainGlobals "_law_level" = some (some (.ref f20))) (l20 : K.lookup f20 = some ⟨oc20, od20, .func (PySem.W.fnOf "_law_level" "_law_level" (defArgs s_l_level) (defBody s_l_level) (defScope s_l_level) .none kV20 dc20 pm20 an20 cd20 ct20), sl20⟩) (c20 : PySem.W.codeIn K cd20 "_law_level" = true) (k20 : PySem.W.keepIn K (.ref f20) = true)
    (a21 : PySem.W.nsIn K mainGlobals "_law_wants" = some (some (.ref f21))) (l21 : K.lookup f21 = some ⟨oc21, od21, .func (PySem.W.fnOf "_law_wants" "_law_wants" (defArgs s_l_wants) (defBody s_l_wants) (defScope s_l_wants) .none kV21 dc21 pm21 an21 cd21 ct21), sl21⟩) (c21 : PySem.W.codeIn K cd21 "_law_wants" = true) (k21 : PySem.W.keepIn K (.ref f21) = true)
    (a22 : PySem.W.nsIn K mainGlobals "_law_alike" = some (some (.ref f22))) (l22 : K.lookup f22 = some ⟨oc22, od22, .func (PySem.W.fnOf "_law_alike" "_law_alike" (defArgs s_l_alike) (defBody s_l_alike) (defScope s_l_alike) .none kV22 dc22 pm22 an22 cd22 ct22), sl22⟩) (c22 : PySem.W.codeIn K cd22 "_law_alike" = true) (k22 : PySem.W.keepIn K (.ref f22) = true)
    (a23 : PySem.W.nsIn K mainGlobals "_law_has_fn_end" = some (some (.ref f23))) (l23 : K.lookup f23 = some ⟨oc23, od23, .func (PySem.W.fnOf "_law_has_fn_end" "_law_has_fn_end" (defArgs s_l_has_fn_end) (defBody s_l_has_fn_end) (defScope s_l_has_fn_end) .none kV23 dc23 pm23 an23 cd23 ct23), sl23⟩) (c23 : PySem.W.codeIn K cd23 "_law_has_fn_end" = true) (k23 : PySem.W.keepIn K (.ref f23) = true)
    (a24 : PySem.W.nsIn K mainGlobals "law" = some (some (.ref f24))) (l24 : K.lookup f24 = some ⟨oc24, od24, .func (PySem.W.fnOf "law" "law" (defArgs s_p_law) (defBody s_p_law) (defScope s_p_law) .none kV24 dc24 pm24 an24 cd24 ct24), sl24⟩) (c24 : PySem.W.codeIn K cd24 "law" = true) (k24 : PySem.W.keepIn K (.ref f24) = true)
    (z_abs : PySem.W.nsIn K mainGlobals "abs" = some none)
    (z_int : PySem.W.nsIn K mainGlobals "int" = some none)
    (z_len : PySem.W.nsIn K mainGlobals "len" = some none)
    (z_range : PySem.W.nsIn K mainGlobals "range" = some none)
    (z_tuple : PySem.W.nsIn K mainGlobals "tuple" = some none)
    (z_list : PySem.W.nsIn K mainGlobals "list" = some none)
    (z_enumerate : PySem.W.nsIn K mainGlobals "enumerate" = some none)
    (z_repr : PySem.W.nsIn K mainGlobals "repr" = some none)
    (da_OPERATORS : PySem.W.nsIn K mainGlobals "OPERATORS" = some (some (.ref e_OPERATORS))) (dl_OPERATORS : K.lookup e_OPERATORS = some ⟨.type "dict", none, .dict es_OPERATORS en_OPERATORS, #[]⟩) (dw_OPERATORS : (e_OPERATORS == sysModules) = false) (dk_OPERATORS : KdL w kd_OPERATORS es_OPERATORS.toList)
    (da_LEVELS : PySem.W.nsIn K mainGlobals "LEVELS" = some (some (.ref e_LEVELS))) (dl_LEVELS : K.lookup e_LEVELS = some ⟨.type "dict", none, .dict es_LEVELS en_LEVELS, #[]⟩) (dw_LEVELS : (e_LEVELS == sysModules) = false) (dk_LEVELS : KdL w kd_LEVELS es_LEVELS.toList)
    (da_LEAST_LEFT : PySem.W.nsIn K mainGlobals "LEAST_LEFT" = some (some (.ref e_LEAST_LEFT))) (dl_LEAST_LEFT : K.lookup e_LEAST_LEFT = some ⟨.type "dict", none, .dict es_LEAST_LEFT en_LEAST_LEFT, #[]⟩) (dw_LEAST_LEFT : (e_LEAST_LEFT == sysModules) = false) (dk_LEAST_LEFT : KdL w kd_LEAST_LEFT es_LEAST_LEFT.toList)
    (da_LEAST_RIGHT : PySem.W.nsIn K mainGlobals "LEAST_RIGHT" = some (some (.ref e_LEAST_RIGHT))) (dl_LEAST_RIGHT : K.lookup e_LEAST_RIGHT = some ⟨.type "dict", none, .dict es_LEAST_RIGHT en_LEAST_RIGHT, #[]⟩) (dw_LEAST_RIGHT : (e_LEAST_RIGHT == sysModules) = false) (dk_LEAST_RIGHT : KdL w kd_LEAST_RIGHT es_LEAST_RIGHT.toList) :
    ∃ fd : FuncData, (∀ (s : Shared) (v : Value), BindsTo s fd ⟨[v], []⟩ [("_law_script", v)]) ∧ ∀ base : Heap, K.In base → base.Ns mainGlobals mg → FnG l.prog w K mg base 11 fa fd ["_law_script"] (spLaw8 K) := by
  have e := hfa.symm.trans (PySem.W.mg_of X G a24)
  cases e
  have T : Txt K mg w := {
    d_p_level_of := defIn_mk X G a0 l0 c0 k0 fun _ _ _ _ _ _ us hl => match us, hl with | [_], _ => rfl
    d_p_operands := defIn_mk X G a1 l1 c1 k1 fun _ _ _ _ _ _ us hl => match us, hl with | [_], _ => rfl
    d_p_least_level := defIn_mk X G a2 l2 c2 k2 fun _ _ _ _ _ _ us hl => match us, hl with | [_, _], _ => rfl
    d_p_operand_at := defIn_mk X G a3 l3 c3 k3 fun _ _ _ _ _ _ us hl => match us, hl with | [_, _], _ => rfl
    d_p_wants_brackets := defIn_mk X G a4 l4 c4 k4 fun _ _ _ _ _ _ us hl => match us, hl with | [_, _], _ => rfl
    d_p_ends_in_fn := defIn_mk X G a5 l5 c5 k5 fun _ _ _ _ _ _ us hl => match us, hl with | [_], _ => rfl
    d_l_bag := defIn_mk X G a6 l6 c6 k6 fun _ _ _ _ _ _ us hl => match us, hl with | [_], _ => rfl
    d_l_take := defIn_mk X G a7 l7 c7 k7 fun _ _ _ _ _ _ us hl => match us, hl with | [_, _], _ => rfl
    d_l_one := defIn_mk X G a8 l8 c8 k8 fun _ _ _ _ _ _ us hl => match us, hl with | [_, _], _ => rfl
    d_l_keywords := defIn_mk X G a9 l9 c9 k9 fun _ _ _ _ _ _ us hl => match us, hl with | [], _ => rfl
    d_l_name := defIn_mk X G a10 l10 c10 k10 fun _ _ _ _ _ _ us hl => match us, hl with | [_], _ => rfl
    d_l_atom := defIn_mk X G a11 l11 c11 k11 fun _ _ _ _ _ _ us hl => match us, hl with | [_], _ => rfl
    d_l_names := defIn_mk X G a12 l12 c12 k12 fun _ _ _ _ _ _ us hl => match us, hl with | [_], _ => rfl
    d_l_part := defIn_mk X G a13 l13 c13 k13 fun _ _ _ _ _ _ us hl => match us, hl with | [_, _], _ => rfl
    d_l_expression := defIn_mk X G a14 l14 c14 k14 fun _ _ _ _ _ _ us hl => match us, hl with | [_, _], _ => rfl
    d_l_flat := defIn_mk X G a15 l15 c15 k15 fun _ _ _ _ _ _ us hl => match us, hl with | [_], _ => rfl
    d_l_expressions_in := defIn_mk X G a16 l16 c16 k16 fun _ _ _ _ _ _ us hl => match us, hl with | [_], _ => rfl
    d_l_operands := defIn_mk X G a17 l17 c17 k17 fun _ _ _ _ _ _ us hl => match us, hl with | [_], _ => rfl
    d_l_sign_level := defIn_mk X G a18 l18 c18 k18 fun _ _ _ _ _ _ us hl => match us, hl with | [_], _ => rfl
    d_l_sides := defIn_mk X G a19 l19 c19 k19 fun _ _ _ _ _ _ us hl => match us, hl with | [_], _ => rfl
    d_l_level := defIn_mk X G a20 l20 c20 k20 fun _ _ _ _ _ _ us hl => match us, hl with | [_], _ => rfl
    d_l_wants := defIn_mk X G a21 l21 c21 k21 fun _ _ _ _ _ _ us hl => match us, hl with | [_, _, _], _ => rfl
    d_l_alike := defIn_mk X G a22 l22 c22 k22 fun _ _ _ _ _ _ us hl => match us, hl with | [_, _], _ => rfl
    d_l_has_fn_end := defIn_mk X G a23 l23 c23 k23 fun _ _ _ _ _ _ us hl => match us, hl with | [_], _ => rfl
    d_p_law := defIn_mk X G a24 l24 c24 k24 fun _ _ _ _ _ _ us hl => match us, hl with | [_], _ => rfl
    n_abs := PySem.W.mg_none_of X G z_abs
    n_int := PySem.W.mg_none_of X G z_int
    n_len := PySem.W.mg_none_of X G z_len
    n_range := PySem.W.mg_none_of X G z_range
    n_tuple := PySem.W.mg_none_of X G z_tuple
    n_list := PySem.W.mg_none_of X G z_list
    n_enumerate := PySem.W.mg_none_of X G z_enumerate
    n_repr := PySem.W.mg_none_of X G z_repr
    k_OPERATORS := ⟨_, PySem.W.mg_of X G da_OPERATORS, _, _, dl_OPERATORS, dw_OPERATORS, dk_OPERATORS⟩
    k_LEVELS := ⟨_, PySem.W.mg_of X G da_LEVELS, _, _, dl_LEVELS, dw_LEVELS, dk_LEVELS⟩
    k_LEAST_LEFT := ⟨_, PySem.W.mg_of X G da_LEAST_LEFT, _, _, dl_LEAST_LEFT, dw_LEAST_LEFT, dk_LEAST_LEFT⟩
    k_LEAST_RIGHT := ⟨_, PySem.W.mg_of X G da_LEAST_RIGHT, _, _, dl_LEAST_RIGHT, dw_LEAST_RIGHT, dk_LEAST_RIGHT⟩
  }
  have F := fun_mk (st := s_p_law) l24 c24 k24
  exact ⟨_, fun s v => .of_eq rfl, fun base _ _ => law_all T F⟩
end Lw
open PySem PySem.W PyProof.Rows
set_option maxRecDepth 100000 in
set_option maxHeartbeats 0 in
theorem PySem.Challenge.cw_leastlaid_k08_levels_and_needed_brackets_holds : PySem.Challenge.rw_leastlaid_k08_levels_and_needed_brackets.Holds := by
  w_on; o_law; k_head; (case hw => w_witness2)
  k_fill
  refine Vf.walk_ofG (l := PySem.Challenge.rw_leastlaid_k08_levels_and_needed_brackets) (n := 63) (k := 11) (x := "_law_script") (sp := fun w => Lw.spLaw8 _) rfl (by decide) rfl ⟨rfl, by decide, by decide⟩ (fun w h Y => PySem.W.kIn_of Y) ?F (fun _ _ a ns hl _ hS => ⟨a, ns, rfl, hS, hl, fun _ => rfl⟩)
  case F =>
    intro w mg fa h KX G hmg
    refine' Lw.all_mk KX G hmg ?a0 ?l0 ?c0 ?k0 ?a1 ?l1 ?c1 ?k1 ?a2 ?l2 ?c2 ?k2 ?a3 ?l3 ?c3 ?k3 ?a4 ?l4 ?c4 ?k4 ?a5 ?l5 ?c5 ?k5 ?a6 ?l6 ?c6 ?k6 ?a7 ?l7 ?c7 ?k7 ?a8 ?l8 ?c8 ?k8 ?a9 ?l9 ?c9 ?k9 ?a10 ?l10 ?c10 ?k10 ?a11 ?l11 ?c11 ?k11 ?a12 ?l12 ?c12 ?k12 ?a13 ?l13 ?c13 ?k13 ?a14 ?l14 ?c14 ?k14 ?a15 ?l15 ?c15 ?k15 ?a16 ?l16 ?c16 ?k16 ?a17 ?l17 ?c17 ?k17 ?a18 ?l18 ?c18 ?k18 ?a19 ?l19 ?c19 ?k19 ?a20 ?l20 ?c20 ?k20 ?a21 ?l21 ?c21 ?k21 ?a22 ?l22 ?c22 ?k22 ?a23 ?l23 ?c23 ?k23 ?a24 ?l24 ?c24 ?k24 ?z_abs ?z_int ?z_len ?z_range ?z_tuple ?z_list ?z_enumerate ?z_repr ?da_OPERATORS ?dl_OPERATORS ?dw_OPERATORS ?dk_OPERATORS ?da_LEVELS ?dl_LEVELS ?dw_LEVELS ?dk_LEVELS ?da_LEAST_LEFT ?dl_LEAST_LEFT ?dw_LEAST_LEFT ?dk_LEAST_LEFT ?da_LEAST_RIGHT ?dl_LEAST_RIGHT ?dw_LEAST_RIGHT ?dk_LEAST_RIGHT
    (case a0 => k_is)
    (case l0 => k_is)
    (case c0 => k_is)
    (case k0 => k_is)
    (case a1 => k_is)
    (case l1 => k_is)
    (case c1 => k_is)
    (case k1 => k_is)
    (case a2 => k_is)
    (case l2 => k_is)
    (case c2 => k_is)
    (case k2 => k_is)
    (case a3 => k_is)
    (case l3 => k_is)
    (case c3 => k_is)
    (case k3 => k_is)
    (case a4 => k_is)
    (case l4 => k_is)
    (case c4 => k_is)
    (case k4 => k_is)
    (case a5 => k_is)
    (case l5 => k_is)
    (case c5 => k_is)
    (case k5 => k_is)
    (case a6 => k_is)
    (case l6 => k_is)
    (case c6 => k_is)
    (case k6 => k_is)
    (case a7 => k_is)
    (case l7 => k_is)
    (case c7 => k_is)
    (case k7 => k_is)
    (case a8 => k_is)
    (case l8 => k_is)
    (case c8 => k_is)
    (case k8 => k_is)
    (case a9 => k_is)
    (case l9 => k_is)
    (case c9 => k_is)
    (case k9 => k_is)
    (case a10 => k_is)
    (case l10 => k_is)
    (case c10 => k_is)
    (case k10 => k_is)
    (case a11 => k_is)
    (case l11 => k_is)
    (case c11 => k_is)
    (case k11 => k_is)
    (case a12 => k_is)
    (case l12 => k_is)
    (case c12 => k_is)
    (case k12 => k_is)
    (case a13 => k_is)
    (case l13 => k_is)
    (case c13 => k_is)
    (case k13 => k_is)
    (case a14 => k_is)
    (case l14 => k_is)
    (case c14 => k_is)
    (case k14 => k_is)
    (case a15 => k_is)
    (case l15 => k_is)
    (case c15 => k_is)
    (case k15 => k_is)
    (case a16 => k_is)
    (case l16 => k_is)
    (case c16 => k_is)
    (case k16 => k_is)
    (case a17 => k_is)
    (case l17 => k_is)
    (case c17 => k_is)
    (case k17 => k_is)
    (case a18 => k_is)
    (case l18 => k_is)
    (case c18 => k_is)
    (case k18 => k_is)
    (case a19 => k_is)
    (case l19 => k_is)
    (case c19 => k_is)
    (case k19 => k_is)
    (case a20 => k_is)
    (case l20 => k_is)
    (case c20 => k_is)
    (case k20 => k_is)
    (case a21 => k_is)
    (case l21 => k_is)
    (case c21 => k_is)
    (case k21 => k_is)
    (case a22 => k_is)
    (case l22 => k_is)
    (case c22 => k_is)
    (case k22 => k_is)
    (case a23 => k_is)
    (case l23 => k_is)
    (case c23 => k_is)
    (case k23 => k_is)
    (case a24 => k_is)
    (case l24 => k_is)
    (case c24 => k_is)
    (case k24 => k_is)
    (case z_abs => k_is)
    (case z_int => k_is)
    (case z_len => k_is)
    (case z_range => k_is)
    (case z_tuple => k_is)
    (case z_list => k_is)
    (case z_enumerate => k_is)
    (case z_repr => k_is)
    (case da_OPERATORS => k_is)
    (case dl_OPERATORS => k_is)
    (case dw_OPERATORS => first | rfl | decide | k_is)
    (case dk_OPERATORS => exact ⟨rfl, rfl, ⟨_, rfl⟩, ⟨rfl, rfl, ⟨_, rfl⟩, ⟨rfl, rfl, ⟨_, rfl⟩, ⟨rfl, rfl, ⟨_, rfl⟩, ⟨rfl, rfl, ⟨_, rfl⟩, ⟨rfl, rfl, ⟨_, rfl⟩, ⟨rfl, rfl, ⟨_, rfl⟩, ⟨rfl, rfl, ⟨_, rfl⟩, ⟨rfl, rfl, ⟨_, rfl⟩, ⟨rfl, rfl, ⟨_, rfl⟩, ⟨rfl, rfl, ⟨_, rfl⟩, ⟨rfl, rfl, ⟨_, rfl⟩, ⟨rfl, rfl, ⟨_, rfl⟩, trivial⟩⟩⟩⟩⟩⟩⟩⟩⟩⟩⟩⟩⟩)
    (case da_LEVELS => k_is)
    (case dl_LEVELS => k_is)
    (case dw_LEVELS => first | rfl | decide | k_is)
    (case dk_LEVELS => exact ⟨rfl, rfl, ⟨_, rfl⟩, ⟨rfl, rfl, ⟨_, rfl⟩, ⟨rfl, rfl, ⟨_, rfl⟩, ⟨rfl, rfl, ⟨_, rfl⟩, ⟨rfl, rfl, ⟨_, rfl⟩, trivial⟩⟩⟩⟩⟩)
    (case da_LEAST_LEFT => k_is)
    (case dl_LEAST_LEFT => k_is)
    (case dw_LEAST_LEFT => first | rfl | decide | k_is)
    (case dk_LEAST_LEFT => exact ⟨rfl, rfl, ⟨_, rfl⟩, ⟨rfl, rfl, ⟨_, rfl⟩, ⟨rfl, rfl, ⟨_, rfl⟩, ⟨rfl, rfl, ⟨_, rfl⟩, ⟨rfl, rfl, ⟨_, rfl⟩, ⟨rfl, rfl, ⟨_, rfl⟩, trivial⟩⟩⟩⟩⟩⟩)
    (case da_LEAST_RIGHT => k_is)
    (case dl_LEAST_RIGHT => k_is)
    (case dw_LEAST_RIGHT => first | rfl | decide | k_is)
    (case dk_LEAST_RIGHT => exact ⟨rfl, rfl, ⟨_, rfl⟩, ⟨rfl, rfl, ⟨_, rfl⟩, ⟨rfl, rfl, ⟨_, rfl⟩, ⟨rfl, rfl, ⟨_, rfl⟩, ⟨rfl, rfl, ⟨_, rfl⟩, ⟨rfl, rfl, ⟨_, rfl⟩, trivial⟩⟩⟩⟩⟩⟩)
