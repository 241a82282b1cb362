import PyProof.Rows.All
import Wide.All
import OpenK.AllK
import Wide.FinOn
import HandS.ForMost
import HandS.Evl
import HandS.Codes
import HandS.RaiseMore
import PyProof.ReprRoads
import HandS.RaiseOp
import HandS.Walk
import PyProof.StrLawsRepr
import PyProof.FitsInt
import HandS.Lambda
import HandS.EndTab
import HandS.CallLocal
import HandS.EndOwn
import HandS.ExcInit
import HandS.ExcField
import HandS.ExcOwn
import HandS.WordsExc
import HandS.SortInts
import HandS.Style
import PyProof.StrLawsOcc
import HandS.StrMore
import PyProof.StrOps2
import HandS.DictComp
import HandS.SortRule
import HandS.More
import HandS.Deep
import KE.KEqNest
import KE.SortData
import KE.KDictLaw
import KE.KExcIs
import HandS.IsInst
import HandS.ExcIs
import HandS.ExcValue
import HandS.TupAny
import PySem.Challenge.RW_leastlaid_k00_errors_of_any_value
set_option Elab.async false
set_option linter.all false
set_option maxRecDepth 100000
set_option maxHeartbeats 4000000
/-! Own words, for every law: defs whose promise is kept where no repr is under way (FnG), repr of data, a list's item changed by +=. -/
namespace Vf
open PySem PySem.Spec PyProof.Rows L2

/-- a def that keeps its promise wherever no repr is under way -/
structure FnG (P : Program) (w : World) (K : PySem.W.Frag)
    (mg : Str → Option Value) (base : Heap) (k : Nat) (f : Addr)
    (fd : FuncData) (ps : List Str) (sp : Sp) : Prop where
  many : ∀ vs H Q E, sp vs H Q E → vs.length = ps.length
  go : ∀ (A : Around) (outer : List Env) (s : Shared) (H : Hp)
    (args : Args) (us : List Value) (vs : List V) (Q : VK) (E : XK),
    Room k A → A.guards = some [] → Env0 P w K mg base A outer s H →
    BindsTo s fd args (ps.zip us) → Vals vs us → sp vs H Q E →
    codeAny (model P w) A (.call (.ref f) args)
      (CR CX0 outer P w H s Q E) s

section
variable {P : Program} {w : World} {K : PySem.W.Frag}
  {mg : Str → Option Value} {base : Heap}

theorem FnG.of_fn {k : Nat} {f : Addr} {fd : FuncData} {ps : List Str} {sp : Sp}
    (F : FnOk P w K mg base CX0 k f fd ps sp) : FnG P w K mg base k f fd ps sp :=
  ⟨F.len, fun A o s H a us vs Q E hr _ e b r q =>
    F.run A o s H a us vs Q E hr e b r q⟩

/-- by its body, as Fun.ok does it -/
theorem fnG_of {x qual : Str} {st : Stmt} {f : Addr} {fd : FuncData}
    {N ps : List Str} {k : Nat} {sp : Sp}
    (F : Fun K x qual st f fd) (S : FnScope N ps (defScope st))
    (many : ∀ vs H Q E, sp vs H Q E → vs.length = ps.length)
    (body : ∀ (cdv : Value) (A : Around) (outer : List Env)
      (s : Shared) (H : Hp) (vs : List V) (Q : VK) (E : XK),
      Room k (A.deeper (envOfC qual (defScope st)
        s.heap.objs.size f cdv)) →
      A.guards = some [] → sp vs H Q E →
      ∃ t, PSs (cxOf CX0 P w K mg base N qual (defScope st)
          f cdv A outer s H E).nox (defBody st) t ∧
        t { nx := fun _ H' => Q .non H', rt := Q }
          (start N vs) H) :
    FnG P w K mg base (k + 1) f fd ps sp := by
  obtain ⟨_, _, _, _, _, _, cdv, _, _, rfl, lk, hcd⟩ := F.ex
  refine ⟨many, fun A outer s H args us vs Q E hr hg e0 hb r hsp => ?_⟩
  have hlen := many _ _ _ _ hsp
  have KX : K.In s.heap := e0.mod.kin.keeps
    (fun b o e => (e0.bs b o e).1)
  have lim := e0.mod.nolimit.keeps
    (fun b o e => (e0.bs b o e).1)
  have kinds : ∀ y ∈ ps.zip us,
      (defScope st).names.lookup y.1 = some .local ∨
      ((defScope st).names.lookup y.1 = some .cell ∧
        ((cellsFrom (s.heap.objs.size + 1)
          (defScope st).names []).lookup y.1).isSome = true) := by
    rintro ⟨n, v⟩ hy
    cases S.par n (List.of_mem_zip hy).1 with
    | inl q => exact .inl q
    | inr q => exact .inr ⟨q, PySem.W.cellsFrom_some _ _ _ (.inl q)⟩
  refine codeAny_call_function hr.depth (KX _ _ lk) rfl
    S.co S.gen rfl (PySem.W.codeRec_of KX hcd) (hb _ _ _ _ ?_)
  refine wpAny_newFunctionEnv_cells S.kind kinds
    (fun env he s1 x => ?_)
  subst he
  refine ⟨lim.keeps x.toInCall.keep, codeAny_func ?_⟩
  obtain ⟨t, ht, hq⟩ := body cdv A outer s H vs Q E
    (hr.deeper _) hg hsp
  have I := inv_start (CX := CX0) (E := E) S hr.hd e0 hlen r x
  refine wpAny_mono (ht.nox.run [] s1 (start N vs) H _ I hq)
    (fun fl s' hs => ?_) (fun _ _ hs => hs)
  cases fl with
  | brk => exact (hs.choose_spec.choose_spec.2 : False).elim
  | cont => exact (hs.choose_spec.choose_spec.2 : False).elim
  | next =>
    obtain ⟨_, H', J, q⟩ := hs
    exact ⟨V.non, H', J.os, J.bare, J.base, J.hok, rfl, q⟩
  | ret u =>
    obtain ⟨v, _, H', J, rv, q⟩ := hs
    exact ⟨v, H', J.os, J.bare, J.base, J.hok, rv, q⟩
end

/-- a call of such a def -/
theorem pe_callG {X : Cx} {k : Nat} {f : Addr} {fd : FuncData}
    {ps : List Str} {sp : Sp} {x : Str} {p pos : Pos}
    {e : Expr} {es : List Expr} {t : TA}
    (F : FnG X.prog X.w X.K X.mg X.base k f fd ps sp)
    (hr : Room k X.A) (gd : X.A.guards = some [])
    (hg : Gl X x) (hm : X.mg x = some (.ref f))
    (hk : PySem.W.keepIn X.K (.ref f) = true)
    (hb : Binds X.K fd ps []) (ha : PA X (e :: es) t)
    (hdb : (x == ("__debug__" : Str)) = false := by decide)
    (he : starEach (e :: es) X.env =
      (false, eval e X.env) :: starEach es X.env := by rfl)
    (hpl : (backTo pos (starEach es X.env)).any (·.1) = false := by rfl) :
    PE X (.Call (.Name x p) (e :: es) [] pos) (tCall sp [] E0 t) := by
  refine ⟨fun pins s σ H Q I h => wpAny_Call_Name_kw (ld_glob I hg hm ?_ hdb)⟩
  refine PySem.W.callWith_K (h₀ := X.base) I.ok.mod.kin hk
    (thn (ha.run pos pins s σ H _ I h) ?_) he hpl
  rintro us s1 ⟨vs, H1, I1, r, q⟩
  refine ⟨I1.kIn, ?_⟩
  have q' : sp vs H1 Q E0 := by
    have := q
    rw [List.append_nil] at this
    exact this
  have hl : us.length = ps.length := by
    rw [← r.length]
    exact F.many _ _ _ _ q'
  have hb' := hb s1 us I1.kIn (by rw [List.append_nil]; exact hl)
  rw [List.append_nil] at hb'
  refine wpAny_call (codeAny_mono (F.go X.A X.stack s1 H1 ⟨us, []⟩ us vs
    Q E0 hr gd I1.env0 hb' r q') ?_)
  intro res s' hq
  cases res with
  | error e => exact (hq : False).elim
  | ok fl =>
    cases fl with
    | ret u => exact I1.after hq
    | next => exact (hq : False).elim
    | brk => exact (hq : False).elim
    | cont => exact (hq : False).elim

/-- repr of a list or a tuple of data -/
theorem call_reprD {X : Cx} (gd : X.A.guards = some []) (hu : X.A.units + 64 < cLine) :
    CallR X (.builtin "repr") (fun xs H Q => ∃ a d, xs = [.ref a] ∧
      Dp X.K H (.ref a) d ∧ d.showable = true ∧ d.hasDict = false ∧
      d.depth ≤ 60 ∧ d.shown.length ≤ sizeLine ∧ Q (.str d.shown) H) := by
  intro pins s σ H xs us Q I r h
  obtain ⟨a, d, rfl, hd, sh, nd, dp, sz, q⟩ := h
  cases r with
  | cons rv rn =>
    cases rn
    obtain rfl := rv
    obtain ⟨as, rd⟩ := Dp.reads I d _ _ hd rfl
    refine repr_of_reads' rd sh (PyData.noDict_hsm nd) gd (by omega)
      (fun _ _ e => e) (fun h' u tk hk => ?_) sz
    exact ⟨.str d.shown, H, I.kept hk, ⟨u, rfl⟩, q⟩

end Vf

set_option Elab.async false
set_option linter.all false
set_option maxRecDepth 100000
set_option maxHeartbeats 4000000
/-! The end of a law whose def is an FnG. -/
namespace Vf
open PySem PySem.Spec PyProof.Rows L2

section
variable {P : Program} {w : World} {K : PySem.W.Frag}
  {mg mb : Str → Option Value} {k : Nat} {fa a : Addr} {fd : FuncData}
  {x : Str} {sp : Sp} {s₁ : Shared} {vs : List Value} {ns : List Int}

/-- what must be true behind the call -/
abbrev LawEnd (s₁ : Shared) : Result → Shared → Prop := fun r s' =>
  r = .ok (.ret (.bool true)) ∧ OldK s₁.heap s'.heap ∧
    s'.os = s₁.os ∧ AllBare s'.gens

theorem law_goes (KX : K.In s₁.heap)
    (hns : s₁.heap.Ns mainGlobals mg) (hb : s₁.heap.Ns builtinsNs mb)
    (hbb : ∀ y : Str, y ≠ "__name__" → mb y = bootBuiltins y)
    (hlim : s₁.heap.NoLimit) (hgen : s₁.gens = #[])
    (ha : s₁.heap.get? a =
      some { cls := .type "list", data := .seq vs.toArray })
    (hr : Room k callerA)
    (F : ∀ base : Heap, K.In base → base.Ns mainGlobals mg →
      FnG P w K mg base k fa fd [x] sp)
    (bind : ∀ (s : Shared) (u : Value),
      BindsTo s fd ⟨[u], []⟩ [(x, u)])
    (H : Hp) (hO : Only H) (ok : HOk P w H s₁.heap)
    (alone : ∀ b, H b ≠ none → b = a)
    (notK : H a ≠ none → K.lookup a = none)
    (hs : sp [.ref a] H (fun v _ => v = .bl true) fun _ _ _ => False) :
    codeAny (model P w) callerA (.call (.ref fa) ⟨[.ref a], []⟩)
      (LawEnd s₁) s₁ := by
  have free : ∀ {b : Addr} {o : Obj} {es : Array DictEntry} {ep : Nat},
      s₁.heap.get? b = some o → o.data = .dict es ep → H b = none := by
    intro b o es ep e d
    cases q : H b with
    | none => rfl
    | some u =>
      have z : b = a := alone b (by rw [q]; exact Option.some_ne_none u)
      rw [z, ha] at e
      cases e
      cases d
  have ns' : ∀ {b : Addr} {m : Str → Option Value},
      s₁.heap.Ns b m → (hidT s₁.heap H).Ns b m := by
    rintro b m ⟨o, es, ep, e, d, r⟩
    exact ⟨o, es, ep, hidT_get e (free e d), d, r⟩
  have kin : K.In (hidT s₁.heap H) := by
    intro b o e
    refine hidT_get (KX b o e) ?_
    cases q : H b with
    | none => rfl
    | some u =>
      have z : b = a := alone b (by rw [q]; exact Option.some_ne_none u)
      have z2 := notK (by rw [← z, q]; exact Option.some_ne_none u)
      rw [z, z2] at e
      cases e
  have lim' : (hidT s₁.heap H).NoLimit := by
    obtain ⟨mc, h1, h2⟩ := hlim
    exact ⟨mc, ns' h1, h2⟩
  have M : Mod K mg (hidT s₁.heap H) :=
    ⟨kin, ns' hns, ⟨mb, ns' hb, hbb⟩, lim'⟩
  have none_in : ∀ b : Addr, b ∉ ([] : List Addr) := fun b => by simp
  have env : Env0 P w K mg (hidT s₁.heap H) callerA [] s₁ H :=
    ⟨rfl, M, fun b o e => of_hidT e, Nat.le_of_eq (hidT_size _ _),
      trivial, fun b z => absurd z (none_in b), ok, .of_eq hgen⟩
  refine codeAny_mono ((F _ kin (ns' hns)).go callerA [] s₁ H
    ⟨[.ref a], []⟩ [.ref a] [.ref a] _ _ hr rfl env
    (bind s₁ (.ref a)) (.cons rfl .nil) hs) ?_
  intro r s' h
  cases r with
  | error e => exact (h : False).elim
  | ok fl =>
    cases fl with
    | next => exact (h : False).elim
    | brk => exact (h : False).elim
    | cont => exact (h : False).elim
    | ret u =>
      obtain ⟨v, H', os, bare, un, ok', rv, q⟩ := h
      obtain rfl : v = .bl true := q
      obtain rfl : u = Value.bool true := rv
      refine ⟨rfl, OldK.of_keep (fun b o e => ?_), os, bare⟩
      cases q : H b with
      | none => exact un.keep b o e q (none_in b) (none_in b)
      | some u =>
        rcases hO b with z | ⟨ob, xs, z⟩
        · rw [q] at z
          cases z
        · obtain ⟨e1, _⟩ := ok b _ z
          obtain ⟨e2, _⟩ := ok' b _ (un.frzs b ob _ z)
          rw [e] at e1
          cases e1
          exact e2

theorem law_goes2 (KX : K.In s₁.heap)
    (hns : s₁.heap.Ns mainGlobals mg) (hb : s₁.heap.Ns builtinsNs mb)
    (hbb : ∀ y : Str, y ≠ "__name__" → mb y = bootBuiltins y)
    (hlim : s₁.heap.NoLimit) (hgen : s₁.gens = #[])
    (ha : s₁.heap.get? a =
      some { cls := .type "list", data := .seq vs.toArray })
    (hi : IntsAre vs ns) (hl : ns.length ≤ sizeLine)
    (hr : Room k callerA)
    (F : ∀ base : Heap, K.In base → base.Ns mainGlobals mg →
      FnG P w K mg base k fa fd [x] sp)
    (bind : ∀ (s : Shared) (u : Value),
      BindsTo s fd ⟨[u], []⟩ [(x, u)])
    (hs : ∀ H : Hp, Only H → SqL K H a (ns.map V.int) →
      sp [.ref a] H (fun v _ => v = .bl true) fun _ _ _ => False) :
    codeAny (model P w) callerA (.call (.ref fa) ⟨[.ref a], []⟩)
      (LawEnd s₁) s₁ := by
  have rv := vals_ints hi
  cases hk : K.lookup a with
  | some o =>
    have e := KX a o hk
    rw [ha] at e
    cases e
    refine law_goes KX hns hb hbb hlim hgen ha hr F bind
      (fun _ => none) (fun _ => .inl rfl) (fun b u z => by cases z)
      (fun b z => absurd rfl z) (fun z => absurd rfl z) (hs _ (fun _ => .inl rfl) ?_)
    refine .inr ⟨_, vs.toArray, _, hk, rfl, rfl, rfl, ?_, by simpa using rv⟩
    rw [List.size_toArray, hi.length]
    exact hl
  | none =>
    have only : Only (fun b => if b = a then some (.frz { cls := .type "list", data := .seq vs.toArray } (.lst (ns.map V.int))) else none) := by
      intro b
      by_cases q : b = a
      · exact .inr ⟨_, _, if_pos q⟩
      · exact .inl (if_neg q)
    refine law_goes KX hns hb hbb hlim hgen ha hr F bind _ only
      (fun b u z => ?_) (fun b z => ?_) (fun _ => hk)
      (hs _ only (.inl (.inr ⟨_, if_pos rfl⟩)))
    · by_cases q : b = a
      · have z' := (if_pos q).symm.trans z
        cases z'
        subst q
        exact ⟨ha, by rw [List.length_map]; exact hl, vs, _, rv, ha⟩
      · have z' := (if_neg q).symm.trans z
        cases z'
    · by_cases q : b = a
      · exact q
      · exact absurd (if_neg q) z
end

/-- the goal that the head leaves -/
theorem walk_ofG {l : PySem.W.OpenLaw} {n k : Nat} {q : Program}
    {loose : List Str} {XP : (Str → Option Value) → Heap → Prop}
    {YP : World → Heap → Prop} {d : DefRec}
    {K : Params → PySem.W.Frag} {sp : World → Sp} {x : Str}
    (hn : l.most = some n) (hn2 : n ≤ sizeLine)
    (hdf : d.params.defaults = []) (hr : Room k callerA)
    (hY : ∀ (w : World) (h : Heap), YP w h → (K w.params).In h)
    (F : ∀ (w : World) (mg : Str → Option Value) (fa : Addr) (h : Heap),
      (K w.params).In h → h.Ns mainGlobals mg →
      mg d.name = some (.ref fa) →
      ∃ fd : FuncData,
        (∀ (s : Shared) (u : Value), BindsTo s fd ⟨[u], []⟩ [(x, u)]) ∧
        ∀ base : Heap, (K w.params).In base → base.Ns mainGlobals mg →
          FnG l.prog w (K w.params) mg base k fa fd [x] (sp w))
    (hsp : ∀ (w : World) (H : Hp) (a : Addr) (ns : List Int),
      ns.length ≤ n → Only H → SqL (K w.params) H a (ns.map V.int) →
      sp w [.ref a] H (fun v _ => v = .bl true) fun _ _ _ => False) :
    PySem.W.WalkO q loose XP YP l.row.toRowW d []
      (fun f vs => PySem.call f vs) := by
  refine Att.attach_call hn hdf ?_
  intro w s₀ s₁ mg mb fa o pm cd doc a vs ns G Y ho hd hcd hmg hobj hints hlen hg
  have KX := hY w _ Y
  obtain ⟨fd, hb, hF⟩ := F w mg fa _ KX G.T.g hmg
  exact law_goes2 KX G.T.g G.T.b G.T.builtins G.T.nolimit hg hobj
    hints (Nat.le_trans hlen hn2) hr hF hb
    (fun H hO hS => hsp w H a ns hlen hO hS)
end Vf

set_option Elab.async false
set_option linter.all false
set_option maxRecDepth 100000
set_option maxHeartbeats 4000000
/-! Own words: defs of the module as they are called; a list's item by +=; the bag of a law's draws. -/
namespace Vf
open PySem PySem.Spec PyProof.Rows L2
open C8 (Cal pe_c pe_gc CalAt)

/-- a def of the text, as the top has laid it -/
structure DefIn (K : PySem.W.Frag) (mg : Str → Option Value) (x : Str) (st : Stmt) (ps : List Str) : Prop where
  ex : ∃ f fd, Fun K x x st f fd ∧ mg x = some (.ref f) ∧ Binds K fd ps []

section
variable {P : Program} {w : World} {K : PySem.W.Frag} {mg : Str → Option Value} {base : Heap}

theorem defIn_mk {x : Str} {st : Stmt} {ps : List Str} {h : Heap} {f : Addr} {oc : Value} {od an : Option Addr} {osl : Array (Option Value)} {kV doc pm cdv ct : Value}
    (X : K.In h) (G : h.Ns mainGlobals mg) (a : PySem.W.nsIn K mainGlobals x = some (some (.ref f)))
    (l : K.lookup f = some ⟨oc, od, .func (PySem.W.fnOf x x (defArgs st) (defBody st) (defScope st) .none kV doc pm an cdv ct), osl⟩)
    (c : PySem.W.codeIn K cdv x = true) (k : PySem.W.keepIn K (.ref f) = true)
    (b : ∀ (kV doc pm : Value) (an : Option Addr) (cdv ct : Value) (us : List Value), us.length = ps.length →
      bindArgs (PySem.W.fnOf x x (defArgs st) (defBody st) (defScope st) .none kV doc pm an cdv ct) ⟨us, []⟩ = pure (ps.zip us)) : DefIn K mg x st ps := by
  have F := fun_mk (st := st) l c k
  exact ⟨f, _, F, PySem.W.mg_of X G a, F.binds b⟩
theorem calOf {x : Str} {st : Stmt} {N ps : List Str} {k : Nat} {sp : Sp}
    (D : DefIn K mg x st ps) (S : FnScope N ps (defScope st))
    (many : ∀ vs H Q E, sp vs H Q E → vs.length = ps.length)
    (body : ∀ (f : Addr) (cdv : Value) (A : Around) (outer : List Env) (s : Shared) (H : Hp) (vs : List V) (Q : VK) (E : XK),
      Room k (A.deeper (envOfC x (defScope st) s.heap.objs.size f cdv)) → sp vs H Q E →
      ∃ t, PSs (cxOf CX0 P w K mg base N x (defScope st) f cdv A outer s H E).nox (defBody st) t ∧ t { nx := fun _ H' => Q .non H', rt := Q } (start N vs) H) :
    Cal P w K mg base (k + 1) x sp [] := by
  obtain ⟨f, fd, F, hm, hb⟩ := D.ex
  exact ⟨f, fd, ps, [], F.ok S many (fun cdv A o s H vs Q E hr h => body f cdv A o s H vs Q E hr h), hm, F.kp, hb, .nil⟩

/-- such a def, where no repr is under way -/
structure CalG (P : Program) (w : World) (K : PySem.W.Frag) (mg : Str → Option Value) (base : Heap) (k : Nat) (x : Str) (sp : Sp) : Prop where
  ex : ∃ (f : Addr) (fd : FuncData) (ps : List Str), FnG P w K mg base k f fd ps sp ∧ mg x = some (.ref f) ∧ PySem.W.keepIn K (.ref f) = true ∧ Binds K fd ps []
theorem calGOf {x : Str} {st : Stmt} {N ps : List Str} {k : Nat} {sp : Sp}
    (D : DefIn K mg x st ps) (S : FnScope N ps (defScope st))
    (many : ∀ vs H Q E, sp vs H Q E → vs.length = ps.length)
    (body : ∀ (f : Addr) (cdv : Value) (A : Around) (outer : List Env) (s : Shared) (H : Hp) (vs : List V) (Q : VK) (E : XK),
      Room k (A.deeper (envOfC x (defScope st) s.heap.objs.size f cdv)) → A.guards = some [] → sp vs H Q E →
      ∃ t, PSs (cxOf CX0 P w K mg base N x (defScope st) f cdv A outer s H E).nox (defBody st) t ∧ t { nx := fun _ H' => Q .non H', rt := Q } (start N vs) H) :
    CalG P w K mg base (k + 1) x sp := by
  obtain ⟨f, fd, F, hm, hb⟩ := D.ex
  exact ⟨f, fd, ps, fnG_of F S many (fun cdv A o s H vs Q E hr h => body f cdv A o s H vs Q E hr h), hm, F.kp, hb⟩
end

section
variable {X : Cx} {k j : Nat} {x : Str} {sp : Sp} {p pos : Pos} {e o i : Expr} {es : List Expr} {t : TA}
theorem pe_c0 (c : Cal X.prog X.w X.K X.mg X.base k x sp []) (hr : Room j X.A) (hk : k ≤ j) (hg : Gl X x)
    (hdb : (x == ("__debug__" : Str)) = false := by decide) : PE X (.Call (.Name x p) [] [] pos) (tCall sp [] E0 tNil) := by
  obtain ⟨f, fd, ps, ds, F, hm, kp, b, d⟩ := c.ex
  exact pe_call0 F (hr.mono hk) hg hm kp b d pass0 hdb
theorem pe_cG (c : CalG X.prog X.w X.K X.mg X.base k x sp) (hr : Room k X.A) (gd : X.A.guards = some []) (hg : Gl X x) (ha : PA X (e :: es) t)
    (hdb : (x == ("__debug__" : Str)) = false := by decide) (he : starEach (e :: es) X.env = (false, eval e X.env) :: starEach es X.env := by rfl) (hpl : (backTo pos (starEach es X.env)).any (·.1) = false := by rfl) :
    PE X (.Call (.Name x p) (e :: es) [] pos) (tCall sp [] E0 t) := by
  obtain ⟨f, fd, ps, F, hm, kp, b⟩ := c.ex
  exact pe_callG F hr gd hg hm kp b ha hdb he hpl

/-- xs[i] read on the way of xs[i] += .. -/
theorem get_list : PGet X (rIxL X.K) := by
  intro pins s σ H x y v u Q I rx ry h
  obtain ⟨p, xs, i, z, rfl, rfl, hq, he, q⟩ := h
  cases rx
  obtain ⟨t, rfl⟩ := ry
  obtain ⟨its, r, pl, hz⟩ := I.list hq
  obtain ⟨j, h1, h2, h3, h4, h5⟩ := atI_get he
  obtain ⟨w, ew, rw'⟩ := r.get h2
  have hl := r.length
  have hn := line63
  have fin : EP X pins σ Q w s := ⟨z, H, I, rw', q⟩
  by_cases h0 : 0 ≤ i
  · have hj : i.toNat = j := by
      rw [seqIndex_of h0 h5] at h1
      exact Option.some.inj h1
    exact wpAny_getItem_list pl.isList h0 (by omega) (by rw [hj]; simpa using ew) fin
  · have hj : (i + (its.toArray.size : Int)).toNat = j := by
      rw [seqIndex_neg (by omega) h4] at h1
      rw [List.size_toArray, ← hl]
      exact Option.some.inj h1
    exact wpAny_getItem_list_neg pl.isList (by omega) (by rw [List.size_toArray]; omega) (by omega) (by rw [hj]; simpa using ew) fin
end

/-! ### the bag -/
/-- all but b stands as it stood -/
def Fr (b : Addr) (H H' : Hp) : Prop := ∀ a o, a ≠ b → H a = some o → H' a = some o
theorem Fr.refl (b : Addr) (H : Hp) : Fr b H H := fun _ _ _ h => h
theorem Fr.trans {b : Addr} {H H1 H2 : Hp} (x : Fr b H H1) (y : Fr b H1 H2) : Fr b H H2 := fun a o n h => y a o n (x a o n h)
theorem Fr.new {b p : Addr} {H H' : Hp} {o : HO} (x : Fr b H H') (n : H' p = none) : Fr b H (upd H' p o) := fun a u na h => by
  have := x a u na h
  rw [upd_ne (ne_of_none this n)]
  exact this
theorem Fr.at {b : Addr} {H H' : Hp} {o : HO} (x : Fr b H H') : Fr b H (upd H' b o) := fun a u na h => by
  rw [upd_ne na]
  exact x a u na h
theorem Fr.put {b p : Addr} {H H' : Hp} {o : HO} (x : Fr b H H') (n : H p = none) : Fr b H (upd H' p o) := fun a u na h => by
  rw [upd_ne (ne_of_none h n)]
  exact x a u na h
/-- tuples stay -/
def Tk (H H' : Hp) : Prop := ∀ a xs, H a = some (.tup xs) → H' a = some (.tup xs)
theorem Tk.refl (H : Hp) : Tk H H := fun _ _ h => h
theorem Tk.trans {H H1 H2 : Hp} (x : Tk H H1) (y : Tk H1 H2) : Tk H H2 := fun a o h => y a o (x a o h)
theorem Tk.of {H H' : Hp} (x : Same H H') : Tk H H' := fun a o h => x a _ h
theorem Tk.new {p : Addr} {H H' : Hp} {o : HO} (x : Tk H H') (n : H' p = none) : Tk H (upd H' p o) := fun a u h => by
  have := x a u h
  rw [upd_ne (ne_of_none this n)]
  exact this
theorem Tk.put {p : Addr} {H H' : Hp} {o : HO} (x : Tk H H') (n : ∀ xs, H p ≠ some (.tup xs)) : Tk H (upd H' p o) := fun a u h => by
  by_cases q : a = p
  · rw [q] at h
    exact absurd h (n u)
  · rw [upd_ne q]
    exact x a u h

/-- a bag stands at b, its numbers at L -/
structure Bg where
  b : Addr
  L : Addr
/-- the six things in a bag: c and e the last two -/
structure Bag (H : Hp) (g : Bg) (c e : Int) : Prop where
  ex : ∃ (z m i : Int) (ns : List Int),
    H g.b = some (.lst [.int z, .int m, .int i, .ref g.L, .int c, .int e]) ∧ H g.L = some (.lst (ns.map V.int)) ∧
    0 ≤ z ∧ 0 ≤ m ∧ m < 2147483647 ∧ 0 ≤ i ∧ (∀ n ∈ ns, (0 : Int) ≤ n) ∧ ns.length ≤ 63
  ne : g.L ≠ g.b
theorem Bag.ob {H : Hp} {g : Bg} {c e : Int} (B : Bag H g c e) : ∃ o, H g.b = some (.lst o) := by
  obtain ⟨z, m, i, ns, h, _⟩ := B.ex
  exact ⟨_, h⟩
theorem Bag.obL {H : Hp} {g : Bg} {c e : Int} (B : Bag H g c e) : ∃ o, H g.L = some (.lst o) := by
  obtain ⟨z, m, i, ns, h, h2, _⟩ := B.ex
  exact ⟨_, h2⟩
theorem Bag.ne_new {H : Hp} {g : Bg} {p : Addr} {c e : Int} (B : Bag H g c e) (n : H p = none) : p ≠ g.b := fun z => by
  obtain ⟨o, h⟩ := B.ob
  rw [← z, n] at h
  cases h
theorem Bag.ne_newL {H : Hp} {g : Bg} {p : Addr} {c e : Int} (B : Bag H g c e) (n : H p = none) : p ≠ g.L := fun z => by
  obtain ⟨o, h⟩ := B.obL
  rw [← z, n] at h
  cases h
theorem Bag.put {H : Hp} {g : Bg} {p : Addr} {c e : Int} {o : HO} (B : Bag H g c e) (n : p ≠ g.b) (n2 : p ≠ g.L) : Bag (upd H p o) g c e := by
  obtain ⟨z, m, i, ns, h, h2, r⟩ := B.ex
  exact ⟨⟨z, m, i, ns, by rw [upd_ne n.symm]; exact h, by rw [upd_ne n2.symm]; exact h2, r⟩, B.ne⟩
theorem Bag.new {H : Hp} {g : Bg} {p : Addr} {c e : Int} {o : HO} (B : Bag H g c e) (n : H p = none) : Bag (upd H p o) g c e := B.put (B.ne_new n) (B.ne_newL n)
theorem Bag.same {H H' : Hp} {g : Bg} {c e : Int} (B : Bag H g c e) (n : Same H H') : Bag H' g c e := by
  obtain ⟨z, m, i, ns, h, h2, r⟩ := B.ex
  exact ⟨⟨z, m, i, ns, n _ _ h, n _ _ h2, r⟩, B.ne⟩
theorem Bag.tk {H H' : Hp} {g : Bg} {c e : Int} (B : Bag H g c e) (f : Fr g.b H H') : Tk H H' := fun a xs h => f a _ (fun z => by
  obtain ⟨o, h2⟩ := B.ob
  rw [← z, h] at h2
  cases h2) h
/-- behind a draw: the bag stands, and all else -/
structure Drawn (g : Bg) (H H' : Hp) (c e : Int) : Prop where
  bag : Bag H' g c e
  fr : Fr g.b H H'
  tk : Tk H H'
section
variable {g : Bg} {a p : Addr} {H H1 H2 H' : Hp} {c e c' e' : Int} {o : HO}
theorem Drawn.trans (x : Drawn g H H1 c e) (y : Drawn g H1 H2 c' e') : Drawn g H H2 c' e' := ⟨y.bag, x.fr.trans y.fr, x.tk.trans y.tk⟩
theorem Drawn.new (x : Drawn g H H' c e) (n : H' p = none) : Drawn g H (upd H' p o) c e := ⟨x.bag.new n, x.fr.new n, x.tk.new n⟩
theorem Drawn.of (B : Bag H g c e) : Drawn g H H c e := ⟨B, .refl _ _, .refl _⟩
theorem Drawn.mk' (B : Bag H g c' e') (B' : Bag H' g c e) (f : Fr g.b H H') : Drawn g H H' c e := ⟨B', f, B.tk f⟩
theorem Drawn.same (B : Bag H g c e) (n : Same H H') : Drawn g H H' c e := ⟨B.same n, fun a o _ h => n a o h, .of n⟩
/-- a store into what H did not know -/
theorem Drawn.put (x : Drawn g H H' c e) (B : Bag H g c' e') (n : H p = none) : Drawn g H (upd H' p o) c e :=
  ⟨x.bag.put (B.ne_new n) (B.ne_newL n), x.fr.put n, x.tk.put fun xs h => by rw [n] at h; cases h⟩
theorem Drawn.keep (x : Drawn g H H' c e) (n : a ≠ g.b) (h : H a = some o) : H' a = some o := x.fr a o n h
theorem upd_some {u : HO} (h : H a = some o) (n : H p = none) : upd H p u a = some o := by
  rw [upd_ne (ne_of_none h n)]
  exact h
theorem Drawn.seqL {K : PySem.W.Frag} {xs : List V} (x : Drawn g H H' c e) (n : a ≠ g.b) (h : SqL K H a xs) : SqL K H' a xs := by
  rcases h with (h | ⟨o, h⟩) | h
  · exact .inl (.inl (x.fr _ _ n h))
  · exact .inl (.inr ⟨o, x.fr _ _ n h⟩)
  · exact .inr h
theorem Drawn.seqT {K : PySem.W.Frag} {xs : List V} (x : Drawn g H H' c e) (n : a ≠ g.b) (h : SqT K H a xs) : SqT K H' a xs := by
  rcases h with (h | ⟨o, h⟩) | h
  · exact .inl (.inl (x.fr _ _ n h))
  · exact .inl (.inr ⟨o, x.fr _ _ n h⟩)
  · exact .inr h
end
/-- an item below the length -/
theorem at_of {α : Type} {xs : List α} {r : Int} (h0 : 0 ≤ r) (h1 : r < (xs.length : Int)) : ∃ v, v ∈ xs ∧ atI xs r = some v := by
  obtain ⟨j, rfl⟩ := Int.eq_ofNat_of_zero_le h0
  have hj : j < xs.length := by omega
  exact ⟨xs[j], List.getElem_mem hj, atI_nat (j := j) (List.getElem?_eq_getElem hj)⟩

/-! ### what defs that draw promise -/
/-- a draw below n -/
def spTake : Sp := fun vs H Q _ => ∃ (g : Bg) (n c e : Int), vs = [.ref g.b, .int n] ∧ Bag H g c e ∧ 0 < n ∧ n < 1073741824 ∧
  ∀ (r : Int) (H' : Hp), 0 ≤ r → r < n → Drawn g H H' c e → Q (.int r) H'
/-- a list, a tuple, or a text is handed in, one of its items comes back -/
def spOne (K : PySem.W.Frag) : Sp := fun vs H Q _ => ∃ (g : Bg) (x : V) (c e : Int), vs = [.ref g.b, x] ∧ Bag H g c e ∧
  ((∃ p xs, x = .ref p ∧ (SqL K H p xs ∨ SqT K H p xs) ∧ p ≠ g.b ∧ 0 < xs.length ∧ xs.length < 1000 ∧ ∀ (v : V) (H' : Hp), v ∈ xs → Drawn g H H' c e → Q v H') ∨
   (∃ z : Str, x = .str z ∧ 0 < z.length ∧ z.length < 1000 ∧ ∀ (h : Nat) (H' : Hp), h ∈ z.cps.toList → Drawn g H H' c e → Q (.str ⟨#[h]⟩) H'))

/-! ### data in tuples -/
mutual
/-- what stands there, and lies in tuples alone -/
inductive Tr (H : Hp) : V → PyData → Prop
  | non : Tr H .non .none
  | bl (b : Bool) : Tr H (.bl b) (.bool b)
  | int (i : Int) : Tr H (.int i) (.int i)
  | str (x : Str) : Tr H (.str x) (.str x)
  | tup {a : Addr} {xs : List V} {ds : List PyData} : H a = some (.tup xs) → TrAll H xs ds → Tr H (.ref a) (.tuple ds)
inductive TrAll (H : Hp) : List V → List PyData → Prop
  | nil : TrAll H [] []
  | cons {v : V} {vs : List V} {d : PyData} {ds : List PyData} : Tr H v d → TrAll H vs ds → TrAll H (v :: vs) (d :: ds)
end
mutual
theorem Tr.keep {H H' : Hp} (k : Tk H H') : ∀ {v : V} {d : PyData}, Tr H v d → Tr H' v d
  | _, _, .non => .non
  | _, _, .bl b => .bl b
  | _, _, .int i => .int i
  | _, _, .str x => .str x
  | _, _, .tup h r => .tup (k _ _ h) (TrAll.keep k r)
theorem TrAll.keep {H H' : Hp} (k : Tk H H') : ∀ {v : List V} {d : List PyData}, TrAll H v d → TrAll H' v d
  | _, _, .nil => .nil
  | _, _, .cons h r => .cons (Tr.keep k h) (TrAll.keep k r)
end
mutual
theorem Tr.dp {K : PySem.W.Frag} {H : Hp} : ∀ {v : V} {d : PyData}, Tr H v d → Dp K H v d
  | _, _, .non => .non
  | _, _, .bl b => .bl b
  | _, _, .int i => .int i
  | _, _, .str x => .str x
  | _, _, .tup h r => .tup (SqT.of h) (TrAll.dp r)
theorem TrAll.dp {K : PySem.W.Frag} {H : Hp} : ∀ {v : List V} {d : List PyData}, TrAll H v d → DpAll K H v d
  | _, _, .nil => .nil
  | _, _, .cons h r => .cons (Tr.dp h) (TrAll.dp r)
end
theorem TrAll.len {H : Hp} : ∀ {v : List V} {d : List PyData}, TrAll H v d → v.length = d.length
  | _, _, .nil => rfl
  | _, _, .cons _ r => congrArg (· + 1) (TrAll.len r)
theorem TrAll.app {H : Hp} : ∀ {v u : List V} {d f : List PyData}, TrAll H v d → TrAll H u f → TrAll H (v ++ u) (d ++ f)
  | _, _, _, _, .nil, q => q
  | _, _, _, _, .cons h r, q => .cons h (TrAll.app r q)
theorem TrAll.one {H : Hp} {v : V} {d : PyData} (h : Tr H v d) : TrAll H [v] [d] := .cons h .nil
theorem TrAll.strs {H : Hp} : ∀ l : List Str, TrAll H (l.map V.str) (l.map PyData.str)
  | [] => .nil
  | x :: r => .cons (.str x) (TrAll.strs r)
theorem TrAll.get {H : Hp} : ∀ {v : List V} {d : List PyData} {i : Nat} {x : V}, TrAll H v d → v[i]? = some x → ∃ y, d[i]? = some y ∧ Tr H x y
  | _, _, _, _, .nil, h => by simp at h
  | _, _, 0, x, .cons h r, q => ⟨_, rfl, by
    have e := Option.some.inj q
    rw [← e]
    exact h⟩
  | _, _, i + 1, x, .cons h r, q => by
    rw [List.getElem?_cons_succ] at q ⊢
    exact TrAll.get r q
end Vf

set_option Elab.async false
set_option linter.all false
set_option maxRecDepth 100000
set_option maxHeartbeats 4000000
/-! Own words: dicts that the top has written, asked by ints and texts; a list extended by a tuple. -/
namespace Vf
open PySem PySem.Spec PyProof.Rows L2

/-- the entries of a written dict, by keys and values -/
def KdL (w : World) : List (Key × V) → List DictEntry → Prop
  | [], [] => True
  | (k, v) :: r, e :: q => keyIs k e.key = true ∧ e.hash = keyH w k ∧ RelV v e.val ∧ KdL w r q
  | _, _ => False
theorem KdL.keys {P : Program} {w : World} : ∀ {kvs : List (Key × V)} {l : List DictEntry}, KdL w kvs l → ∀ e ∈ l, ∃ k, (mixKind P w).is k e.key = true ∧ e.hash = (mixKind P w).hash k
  | [], [], _, e, he => by cases he
  | (k, v) :: r, e :: q, h, e', he => by
    rcases List.mem_cons.mp he with rfl | he
    · exact ⟨k, h.1, h.2.1⟩
    · exact KdL.keys h.2.2.2 e' he
  | [], _ :: _, h, _, _ => h.elim
  | _ :: _, [], h, _, _ => h.elim
theorem KdL.val {w : World} : ∀ {kvs : List (Key × V)} {l : List DictEntry}, KdL w kvs l → ∀ k, RelO (valV kvs k) ((l.find? fun e => keyIs k e.key).map (·.val))
  | [], [], _, k => True.intro
  | (k', v) :: r, e :: q, h, k => by
    have ih := KdL.val h.2.2.2 k
    unfold valV at ih ⊢
    rw [List.find?_cons, List.find?_cons]
    by_cases hk : k' = k
    · subst hk
      rw [h.1, decide_eq_true rfl]
      exact h.2.2.1
    · have h1 : keyIs k e.key = false := by
        cases hb : keyIs k e.key with
        | false => rfl
        | true =>
          have a1 := h.1
          rcases keyIs_shape a1 with ⟨i, t, e1, e2⟩ | ⟨x, t, e1, e2⟩
          · rcases keyIs_shape hb with ⟨j, u, e3, e4⟩ | ⟨y, u, e3, e4⟩
            · rw [e2] at e4
              cases e4
              exact absurd (e1.trans e3.symm) hk
            · rw [e2] at e4
              cases e4
          · rcases keyIs_shape hb with ⟨j, u, e3, e4⟩ | ⟨y, u, e3, e4⟩
            · rw [e2] at e4
              cases e4
            · rw [e2] at e4
              cases e4
              exact absurd (e1.trans e3.symm) hk
      rw [h1, decide_eq_false hk]
      exact ih
  | [], _ :: _, h, _ => h.elim
  | _ :: _, [], h, _ => h.elim
/-- a dict of the module stands at d -/
def KD (K : PySem.W.Frag) (w : World) (d : Addr) (kvs : List (Key × V)) : Prop :=
  ∃ es n, K.lookup d = some ⟨.type "dict", none, .dict es n, #[]⟩ ∧ (d == sysModules) = false ∧ KdL w kvs es.toList
theorem KD.map {P : Program} {w : World} {K : PySem.W.Frag} {d : Addr} {kvs : List (Key × V)} {h : Heap} (D : KD K w d kvs) (X : K.In h) :
    ∃ f, h.MapOf (mixKind P w) d f ∧ ∀ k, RelO (valV kvs k) (f k) := by
  obtain ⟨es, n, hl, _, hk⟩ := D
  refine ⟨_, ⟨_, es, n, X _ _ hl, ⟨rfl, rfl, rfl⟩, rfl, fun e he => hk.keys e (Array.mem_toList_iff.mpr he), fun _ => rfl⟩, fun k => ?_⟩
  have q := hk.val k
  obtain ⟨l⟩ := es
  unfold findBy
  rw [List.find?_toArray]
  exact q
/-- d[k], there -/
def rKGet (K : PySem.W.Frag) (w : World) : R2 := fun x y H Q => ∃ d kvs k v, x = .ref d ∧ y = kV k ∧ KD K w d kvs ∧ valV kvs k = some v ∧ Q v H
/-- d.get(k, z) -/
def tKGet2 (K : PySem.W.Frag) (w : World) (td ty tx : TE) : TE := fun σ H Q => td σ H fun x H1 => ty σ H1 fun y H2 => tx σ H2 fun z H3 =>
  ∃ d kvs k, x = .ref d ∧ y = kV k ∧ KD K w d kvs ∧ Q ((valV kvs k).getD z) H3
section
variable {X : Cx} {o e f : Expr} {apos cpos : Pos} {td ty tx : TE}
theorem ix_kd : IxR X (rKGet X.K X.w) := by
  intro value slice pins s σ H x y v u Q I rx ry h hs
  obtain ⟨d, kvs, k, z, rfl, rfl, D, hv, q⟩ := h
  cases rx
  obtain ⟨g, hm, hg⟩ := D.map (P := X.prog) I.kIn
  have q2 := hg k
  rw [hv] at q2
  obtain ⟨z', e1, r1⟩ := q2.some_of
  exact tail_any hm.typeIs PySem.F.slot_dict_getitem.lookup (wpAny_getItem_of (kV_is ry) hm e1 ⟨z, H, I.tok _, r1, q⟩) hs
theorem pe_kget2 (ho : PE X o td) (he : PE X e ty) (hf : PE X f tx) (hD : ∀ σ H Q, td σ H Q → td σ H (fun x H1 => (∃ d kvs, x = .ref d ∧ KD X.K X.w d kvs) ∧ Q x H1)) (m : M2 X o "get" apos e f cpos) :
    PE X (.Call (.Attribute o "get" apos) [e, f] [] cpos) (tKGet2 X.K X.w td ty tx) := by
  refine ⟨fun pins s σ H Q I h => ?_⟩
  have h' := hD _ _ _ h
  refine wpAny_Call_method m.base m.few m.line PySem.F.plainAttrs_dict PySem.F.slot_dict_get PySem.F.type_dict_get (thn (ho.run pins s σ H _ I h') ?_)
  rintro u s1 ⟨x, H1, I1, rx, ⟨d, kvs0, rfl, D⟩, q1⟩
  cases rx
  obtain ⟨g, hm, hg⟩ := D.map (P := X.prog) I1.kIn
  obtain ⟨es, n, hl, low, _⟩ := D
  refine ⟨hm.typeIs, fun b z => ?_, ?_⟩
  · cases z
    exact ⟨_, I1.kIn _ _ hl, rfl⟩
  rw [m.trees]
  refine Calls.callWith_builtin rfl (Calls.evalArgs_plain (Calls.spliced_cons (thn (he.run pins s1 σ H1 _ I1 q1) ?_)))
  rintro iv s2 ⟨y, H2, I2, ry, q2⟩
  refine Calls.spliced_cons (thn (hf.run pins s2 σ H2 _ I2 q2) ?_)
  rintro fv s3 ⟨z, H3, I3, rz, d', kvs, k, ed, ey, D3, q3⟩
  cases ed
  subst ey
  refine Calls.spliced_nil ?_
  obtain ⟨g3, hm3, hg3⟩ := D3.map (P := X.prog) I3.kIn
  refine call_meetsIn PySem.F.slot_dict_get hm3.typeIs PySem.F.entry_dict_get (PySem.F.args_dict_get_3 _ _ _) (meets_dict_get_default (mixKind X.prog X.w) d (kV_is ry) low fv) ⟨_, hm3, ?_⟩
  exact ⟨_, H3, I3.tok _, (hg3 k).getD rz, q3⟩

/-- xs.extend(t), t a tuple -/
def rExtendT (K : PySem.W.Frag) : V → List V → Hp → VK → Prop := fun x vs H Q => ∃ l b xs zs, x = .ref l ∧ vs = [.ref b] ∧ H l = some (.lst xs) ∧ SqT K H b zs ∧ xs.length + zs.length ≤ sizeLine ∧ Q .non (upd H l (.lst (xs ++ zs)))
theorem extend_tuple (l b : Addr) (its its2 : Array Value) (n n2 : Nat) (dd : Option Addr) (sl : Array (Option Value))
    (h0 : ¬(!its.isEmpty && Builtin.List.listTooLong (its.size + its2.size)) = true)
    (h1 : its.size ≤ sizeLine) (h2 : its.size + its2.size ≤ sizeLine + 1) :
    Meets (Builtin.«list.extend» ⟨[.ref l, .ref b], []⟩) (fun _ R s =>
      s.heap.get? l = some { cls := .type "list", dict := none, data := .seq its n, slots := #[] } ∧
      s.heap.get? b = some { cls := .type "tuple", dict := dd, data := .seq its2 n2, slots := sl } ∧
      R (.ok (.ret Value.none)) { s with heap := s.heap.update l (Obj.mapSeq fun x => x ++ its2), toks := s.toks }) :=
  .of_wp fun prog w A R s h => by
    obtain ⟨hp, g, d, tk, os⟩ := s
    obtain ⟨hl, hb, h⟩ := h
    have f1 := AutoSeq1.idx_int
    have f2 := AutoSeq1.sub_tuple_tuple
    have f3 := AutoSeq1.sub_list_list
    have f4 := AutoSeq1.sub_tuple_list
    have f5 := AutoSeq1.sub_list_tuple
    have hz' : (its ++ its2).size ≤ sizeLine + 1 := by
      rw [Array.size_append]
      exact h2
    wp_walk using (wpAny_updateSeq hl rfl (hz := h1) (_hz' := hz')), AutoSeq1.wpAny_loadPart' hl, AutoSeq1.wpAny_loadPart' hb
    exact ⟨_, rfl, h⟩
theorem mt_extendT : MtM X "list.extend" (rExtendT X.K) := by
  intro pins s σ H x vs v us Q I rx rv h
  obtain ⟨l, b, xs, zs, rfl, rfl, hH, hB, hz, q⟩ := h
  cases rx
  obtain ⟨u, rfl, ru⟩ := rv.one
  cases ru
  obtain ⟨z, its, n, r, hl, e⟩ := I.lstM hH
  obtain ⟨its2, r2, ⟨⟨cls, dd, dat, sl⟩, ho, hc, n2, hd⟩, hz2⟩ := I.tuple hB
  simp only at hc hd
  subst hc hd
  have hl2 := r2.length
  have hsz : its.toArray.size + its2.toArray.size ≤ sizeLine := by
    rw [List.size_toArray, List.size_toArray]
    omega
  have hlong : ¬ (!its.toArray.isEmpty && Builtin.List.listTooLong (its.toArray.size + its2.toArray.size)) = true := by
    rw [notLongL hsz, Bool.and_false]
    exact Bool.false_ne_true
  refine call_meets PySem.F.slot_list_extend ⟨_, e, rfl⟩ PySem.F.entry_list_extend (PySem.F.args_list_extend_2 _ _)
    (extend_tuple l b its.toArray its2.toArray n n2 dd sl hlong (by rw [List.size_toArray]; omega) (by omega)) ⟨e, ho, ?_⟩
  refine ⟨.non, _, I.lset (its' := its ++ its2) hH e (by simp) (r.append r2) ?_, rfl, q⟩
  rw [List.length_append]
  omega
end
end Vf

set_option Elab.async false
set_option linter.all false
set_option maxRecDepth 100000
set_option maxHeartbeats 4000000
/-! Own words: data that are shown alike. -/
namespace Vf
open PySem PySem.Spec PyProof.Rows L2
mutual
/-- data without dicts, whose ints and texts may be shown -/
def tame : PyData → Bool
  | .none => true
  | .bool _ => true
  | .int i => decide (i.natAbs < 10 ^ 30)
  | .str x => x.cps.all (· < 0x110000)
  | .list xs => tameAll xs
  | .tuple xs => tameAll xs
  | .dict _ => false
def tameAll : List PyData → Bool
  | [] => true
  | x :: r => tame x && tameAll r
end
mutual
/-- no less than the length of what is shown -/
def wt : PyData → Nat
  | .none => 4
  | .bool _ => 5
  | .int _ => 32
  | .str x => 10 * x.length + 2
  | .list xs => wtAll xs + 4
  | .tuple xs => wtAll xs + 4
  | .dict _ => 0
def wtAll : List PyData → Nat
  | [] => 0
  | x :: r => wt x + 2 + wtAll r
end
theorem listText_le (ts : List Str) : (listText ts).length ≤ piled ts + 2 := by
  have e1 : (("[" : Str)).length = 1 := rfl
  have e2 : (("]" : Str)).length = 1 := rfl
  unfold listText
  rw [Str.length_append]
  have e2' : (("]" : String) : Str).length = 1 := rfl
  cases ts with
  | nil =>
    show (("[" : Str)).length + _ ≤ _
    rw [e1, piled_nil]
    exact Nat.le_refl _
  | cons t r =>
    show (textFrom (0 + 1) (("[" : Str) ++ _ ++ t) r).length + _ ≤ _
    rw [textFrom_length_pos r 1 _ (by decide), piled_cons, Str.length_append, Str.length_append, e1]
    have e3 : (Str.ofString (if 0 > 0 then ", " else "" : String)).length = 0 := rfl
    rw [e3, e2']
    omega
theorem tupleText_le (ts : List Str) : (tupleText ts).length ≤ piled ts + 3 := by
  unfold tupleText
  rw [Str.length_append, Str.length_append]
  have e1 : (("(" : Str)).length = 1 := rfl
  have e2 : (Str.ofString (if ts.length == 1 then ",)" else ")" : String)).length ≤ 2 := by
    split
    · exact Nat.le_refl _
    · exact Nat.le_succ 1
  have e3 : (Str.join ", " ts).length ≤ piled ts := by
    by_cases h : ts = []
    · subst h
      exact Nat.le_refl _
    · have := join_length_add ts h
      omega
  rw [e1]
  omega
theorem ofs_len (i : Int) (h : i.natAbs < 10 ^ 30) : (Str.ofString (toString i)).length ≤ 30 + 1 := by
  have e : (Str.ofString (toString i)).length = (toString i).length := PySem.ofString_length _
  rw [e]
  exact int_text_length_le10 (by decide) h
mutual
theorem shown_le : ∀ d : PyData, tame d = true → d.shown.length ≤ wt d
  | .none, _ => Nat.le_refl _
  | .bool b, _ => by
    cases b
    · exact Nat.le_refl _
    · exact Nat.le_succ 4
  | .int i, h => by
    have h' : i.natAbs < 10 ^ 30 := of_decide_eq_true h
    exact Nat.le_trans (ofs_len i h') (by show 30 + 1 ≤ 32; decide)
  | .str x, h => by
    refine Nat.le_trans (StrLaws.reprText_len x ?_) (Nat.le_refl _)
    intro c hc
    have h' : x.cps.all (· < 0x110000) = true := h
    rw [← Array.all_toList, List.all_eq_true] at h'
    have := of_decide_eq_true (h' c hc)
    omega
  | .list xs, h => by
    have := shownAll_le xs h
    have := listText_le (PyData.shownAll xs)
    show (listText (PyData.shownAll xs)).length ≤ wtAll xs + 4
    omega
  | .tuple xs, h => by
    have := shownAll_le xs h
    have := tupleText_le (PyData.shownAll xs)
    show (tupleText (PyData.shownAll xs)).length ≤ wtAll xs + 4
    omega
  | .dict _, h => by cases h
theorem shownAll_le : ∀ xs : List PyData, tameAll xs = true → piled (PyData.shownAll xs) ≤ wtAll xs
  | [], _ => Nat.le_refl _
  | x :: r, h => by
    have h' : (tame x && tameAll r) = true := h
    rw [Bool.and_eq_true] at h'
    have := shown_le x h'.1
    have := shownAll_le r h'.2
    show piled (x.shown :: PyData.shownAll r) ≤ wt x + 2 + wtAll r
    rw [piled_cons]
    omega
end
mutual
theorem tame_ok : ∀ d : PyData, tame d = true → d.showable = true ∧ d.hasDict = false ∧ d.canLay0 = true
  | .none, _ => ⟨rfl, rfl, rfl⟩
  | .bool b, _ => ⟨rfl, rfl, rfl⟩
  | .int i, h => by
    have h' : i.natAbs < 10 ^ 30 := of_decide_eq_true h
    refine ⟨?_, rfl, rfl⟩
    show decide (i.natAbs.log2 < 1920) = true
    refine decide_eq_true ?_
    by_cases h0 : i.natAbs = 0
    · rw [h0]
      decide
    · exact (Nat.log2_lt h0).mpr (Nat.lt_trans h' (by decide +kernel))
  | .str x, h => ⟨rfl, rfl, h⟩
  | .list xs, h => tameAll_ok xs h
  | .tuple xs, h => tameAll_ok xs h
  | .dict _, h => by cases h
theorem tameAll_ok : ∀ xs : List PyData, tameAll xs = true → PyData.showableAll xs = true ∧ PyData.hasDictAll xs = false ∧ PyData.canLayAll0 xs = true
  | [], _ => ⟨rfl, rfl, rfl⟩
  | x :: r, h => by
    have h' : (tame x && tameAll r) = true := h
    rw [Bool.and_eq_true] at h'
    obtain ⟨a1, a2, a3⟩ := tame_ok x h'.1
    obtain ⟨b1, b2, b3⟩ := tameAll_ok r h'.2
    refine ⟨?_, ?_, ?_⟩
    · show (PyData.showable x && PyData.showableAll r) = true
      rw [a1, b1] <;> rfl
    · show (PyData.hasDict x || PyData.hasDictAll r) = false
      rw [a2, b2] <;> rfl
    · show (PyData.canLay0 x && PyData.canLayAll0 r) = true
      rw [a3, b3] <;> rfl
end
/-- data of a size that may be shown -/
structure OkD (d : PyData) : Prop where
  tm : tame d = true
  dp : d.depth ≤ 60
  sz : wt d ≤ 16000000
theorem OkD.shaped {d : PyData} (h : OkD d) : SeqAt.shaped d = true := by
  unfold SeqAt.shaped
  rw [Bool.and_eq_true]
  exact ⟨(tame_ok d h.tm).2.2, decide_eq_true (Nat.le_trans h.dp (by decide))⟩
theorem OkD.show {d : PyData} (h : OkD d) : d.shown.length ≤ sizeLine := Nat.le_trans (shown_le d h.tm) (Nat.le_trans h.sz (by decide))
theorem OkD.refl {d : PyData} (h : OkD d) : PyData.eqv d d = true := SeqAt.eqv_refl d (tame_ok d h.tm).2.2
/-- repr of a list or a tuple, of a truth, of an int -/
theorem call_repr {X : Cx} (gd : X.A.guards = some []) (hu : X.A.units + 64 < cLine) :
    CallR X (.builtin "repr") (fun xs H Q => ∃ a d, xs = [.ref a] ∧ Dp X.K H (.ref a) d ∧ OkD d ∧ Q (.str d.shown) H) := by
  intro pins s σ H xs us Q I r h
  obtain ⟨a, d, rfl, hd, ok, q⟩ := h
  obtain ⟨h1, h2, h3⟩ := tame_ok d ok.tm
  exact call_reprD gd hu pins s σ H [.ref a] us Q I r ⟨a, d, rfl, hd, h1, h2, ok.dp, ok.show, q⟩
def rListOf (K : PySem.W.Frag) : List V → Hp → VK → Prop := fun xs H Q => ∃ p ys, xs = [.ref p] ∧ (SqL K H p ys ∨ SqT K H p ys) ∧ ∀ l, H l = none → Q (.ref l) (upd H l (.lst ys))
def rLenK (K : PySem.W.Frag) : List V → Hp → VK → Prop := fun xs H Q => ∃ x n, xs = [x] ∧ LenV K x H n ∧ Q (.int n) H
def rTupOf (K : PySem.W.Frag) : List V → Hp → VK → Prop := fun xs H Q => ∃ p ys, xs = [.ref p] ∧ ((SqL K H p ys ∧ ∀ l, H l = none → Q (.ref l) (upd H l (.tup ys))) ∨ (SqT K H p ys ∧ Q (.ref p) H))
/-- two things alike -/
def spAlike (K : PySem.W.Frag) : Sp := fun vs H Q _ => ∃ (a b : Addr) (d : PyData), vs = [.ref a, .ref b] ∧ Dp K H (.ref a) d ∧ Dp K H (.ref b) d ∧ OkD d ∧ ∀ H', Same H H' → Q (.bl true) H'
theorem same_new {H : Hp} {p : Addr} {o : HO} (h : H p = none) : Same H (upd H p o) := fun b u e => by
  rw [upd_ne (ne_of_none e h)]
  exact e
theorem Tr.new {H : Hp} {v : V} {d : PyData} {p : Addr} {o : HO} (t : Tr H v d) (h : H p = none) : Tr (upd H p o) v d := t.keep ((Tk.refl H).new h)
theorem TrAll.new {H : Hp} {v : List V} {d : List PyData} {p : Addr} {o : HO} (t : TrAll H v d) (h : H p = none) : TrAll (upd H p o) v d := t.keep ((Tk.refl H).new h)
theorem same_put {H H' : Hp} {p : Addr} {o : HO} (s : Same H H') (h : H p = none) : Same H (upd H' p o) := fun b u e => by
  rw [upd_ne (ne_of_none e h)]
  exact s b u e
end Vf

set_option Elab.async false
set_option linter.all false
set_option maxRecDepth 100000
set_option maxHeartbeats 4000000
/-! Own words: a lambda of one parameter, handed to a def; a local that holds such a one, or a def. -/
namespace Vf
open PySem PySem.Spec PyProof.Rows L2
open LamX (CodeO TabS Tabs ExtN TabB)
/-- the lambda that stands at f, its code at c -/
def LamO (f c : Addr) (q : Str) (ar : Arguments) (bd : Expr) (sc : Scope) : HO :=
  .ext fun h => ∃ pm ct : Value, h.get? f = some (PySem.W.kla_obj "<lambda>" q ar bd sc [] pm c ct)
/-- what a call takes at f -/
def Callee (K : PySem.W.Frag) (H : Hp) (f : Addr) : Prop :=
  (∃ oc od fd sl, K.lookup f = some ⟨oc, od, .func fd, sl⟩) ∨ ∃ c q ar bd sc, H f = some (LamO f c q ar bd sc)
/-- f, called with one thing, keeps the promise -/
def One (P : Program) (w : World) (K : PySem.W.Frag) (mg : Str → Option Value) (base : Heap) (k : Nat) (f : Addr) (sp : Sp) : Prop :=
  ∀ (A : Around) (outer : List Env) (s : Shared) (H : Hp) (u : Value) (v : V) (Q : VK) (E : XK),
    Room k A → Env0 P w K mg base A outer s H → RelV v u → sp [v] H Q E →
    codeAny (model P w) A (.call (.ref f) ⟨[u], []⟩) (CR CX0 outer P w H s Q E) s
section
variable {P : Program} {w : World} {K : PySem.W.Frag} {mg : Str → Option Value} {base : Heap}
/-- a def of the text -/
theorem one_def {k : Nat} {x : Str} {sp : Sp} (C : C8.Cal P w K mg base k x sp []) : ∃ f, mg x = some (.ref f) ∧ (∃ fd ps, FnOk P w K mg base CX0 k f fd ps sp) ∧ One P w K mg base k f sp := by
  obtain ⟨f, fd, ps, ds, F, hm, kp, b, d⟩ := C
  cases d
  refine ⟨f, hm, ⟨fd, ps, F⟩, fun A o s H u v Q E hr e0 rv h => ?_⟩
  have KX : K.In s.heap := e0.mod.kin.keeps fun b o e => (e0.bs b o e).1
  have hl : ([u] : List Value).length = ps.length := F.len _ _ _ _ h
  exact F.run A o s H ⟨[u], []⟩ [u] [v] Q E hr e0 (b s [u] KX hl) (.cons rv .nil) h
/-- a lambda, by its body -/
theorem one_lam {k : Nat} {q p : Str} {ar : Arguments} {bd : Expr} {sc : Scope} {N : List Str} {sp : Sp} (f c : Addr)
    (S : FnScope N [p] sc) (nc : ∀ y ∈ sc.names, y.2 ≠ .cell)
    (bind : ∀ (pm ct u : Value), bindArgs (PySem.W.kla_fn "<lambda>" q ar bd sc [] pm (.ref c) ct) ⟨[u], []⟩ = pure [(p, u)])
    (body : ∀ (A : Around) (outer : List Env) (s : Shared) (H : Hp) (v : V) (Q : VK) (E : XK),
      Room k (A.deeper (envOfC q sc s.heap.objs.size f (.ref c))) → sp [v] H Q E →
      ∃ te : TE, PE (cxOf CX0 P w K mg base N q sc f (.ref c) A outer s H E).nox bd te ∧ te (start N [v]) H Q) :
    One P w K mg base (k + 1) f fun vs H Q E => H f = some (LamO f c q ar bd sc) ∧ H c = some (CodeO c q) ∧ sp vs H Q E := by
  intro A outer s H u v Q E hr e0 rv h
  obtain ⟨hf, hc, hs⟩ := h
  obtain ⟨⟨pm, ct, of⟩, _, _⟩ := e0.hok f _ hf
  obtain ⟨⟨oc, vs, t, e1, e2, e3⟩, _, _⟩ := e0.hok c _ hc
  have lim : s.heap.NoLimit := e0.mod.nolimit.keeps fun b o e => (e0.bs b o e).1
  refine PySem.W.kla_callFunE hr.depth of rfl S.co S.gen rfl ⟨c, oc, vs, t, rfl, e1, e2, e3⟩ ?_
  rw [bind]
  refine wpAny_pure ?_
  refine wpAny_newFunctionEnv_cells S.kind (fun y hy => ?_) fun env he s1 x => ?_
  · obtain rfl : y = (p, u) := by simpa using hy
    exact (S.par p (by simp)).elim .inl fun z => absurd rfl (nc _ (PySem.mem_of_lookup z))
  subst he
  refine ⟨lim.keeps x.toInCall.keep, ?_⟩
  obtain ⟨te, ht, hq⟩ := body A outer s H v Q E (hr.deeper _) hs
  have I := inv_start (CX := CX0) (E := E) (us := [u]) (vs := [v]) S hr.hd e0 rfl (.cons rv .nil) x
  refine PySem.W.kla_codeExpr (wpAny_mono (ht.nox.run [] s1 (start N [v]) H Q I hq) (fun u' s' hs => ?_) fun _ _ hs => hs)
  obtain ⟨v', H', J, rv', q'⟩ := hs
  exact ⟨v', H', J.os, J.bare, J.base, J.hok, rv', q'⟩
end

/-! ### a lambda is made -/
/-- what the making of a lambda gives on -/
def tLamV (T : List (Addr × Str)) (q : Str) (ar : Arguments) (bd : Expr) (sc : Scope) : TE := fun _ H Q =>
  Tabs T H ∧ ∀ (f c : Addr) (H1 : Hp), ExtN H H1 → Tabs T H1 → H1 f = some (LamO f c q ar bd sc) → H1 c = some (CodeO c q) → H f = none → H c = none ∨ H c = some (CodeO c q) → Q (.ref f) H1
section
variable {X : Cx} {pins : List (Addr × Obj)} {σ : L2.St} {H : Hp} {s : Shared}
/-- a lambda's object, laid behind all others -/
theorem inv_lam {c : Addr} {q : Str} {ar : Arguments} {bd : Expr} {sc : Scope} {pm ct : Value} {h' : Heap} {tk : Nat} (I : Inv X pins σ H { s with heap := h', toks := tk }) :
    Inv X pins σ (upd H h'.objs.size (LamO h'.objs.size c q ar bd sc)) { s with heap := h'.push (PySem.W.kla_obj "<lambda>" q ar bd sc [] pm c ct), toks := tk } := by
  refine I.laid (fun b u e => Heap.get?_push_of_some _ e) (Nat.le_refl _) ?_
  refine ⟨⟨pm, ct, Heap.get?_push_size _ rfl⟩, ⟨_, Heap.get?_push_size _ rfl⟩, ?_⟩
  rintro h1 h2 ⟨pm', ct', e⟩ st
  exact ⟨pm', ct', st _ e⟩
theorem lam_ne_tbl {f c : Addr} {q : Str} {ar : Arguments} {bd : Expr} {sc : Scope} (ps : Array Value) : LamO f c q ar bd sc ≠ .tbl ps := fun z => by
  unfold LamO at z
  cases z
theorem tabs_new {T : List (Addr × Str)} {f : Addr} {o : HO} (t : Tabs T H) (n : H f = none) : Tabs T (upd H f o) :=
  t.ext fun b u e => by
    rw [upd_ne (ne_of_none e n)]
    exact e
theorem pe_lam {T : List (Addr × Str)} {c P : Addr} {ar : Arguments} {bd : Expr} {sc : Scope} {pos : Pos} (TB : TabB X.base X.mg c P) (hcode : X.env.code = .ref c)
    (hm : (P, X.env.qual ++ "<lambda>") ∈ T) (hu : ∀ p ∈ T, p.1 = P → p.2 = X.env.qual ++ "<lambda>") (hdef : defaultsOf ar X.env = ([], []))
    (hfree : ∀ y ∈ sc.names, y.2 ≠ .free) (hclo : cloFrom X.env.cells sc.names [] = []) :
    PE X (.Lambda ar bd sc pos) (tLamV T (X.env.qual ++ "<lambda>") ar bd sc) := by
  refine ⟨fun pins s σ H Q I h => ?_⟩
  obtain ⟨hT, go⟩ := h
  obtain ⟨ps, atP, tri, known⟩ := hT _ hm
  have oP : s.heap.get? P = some { cls := .none, data := .fields ps } := I.hok P _ atP
  have bP : s.heap.BuiltinsAt X.mg P := TB.bm.keeps I.bk
  have cl := closure_ok (scope := sc) (env := X.env) fun y hy e => absurd e (hfree y hy)
  rw [hclo] at cl
  refine PySem.W.kla_eval hdef ?_
  cases found : codeAmong pos ps.toList with
  | some cv =>
    obtain ⟨c1, rfl, known1⟩ := known pos cv found
    refine PySem.W.kla_makeFunctionHit (mg := X.mg) (c := c) (P := P) (ps := ps) cl I.ok.glob (I.mod.glob.keeps I.bk) hcode (TB.code.keeps I.bk) oP tri found bP ?_
    intro ct h' tk keep size
    have I1 : Inv X pins σ H { s with heap := h', toks := tk } := I.kept keep
    have nf : H h'.objs.size = none := I.hok.fresh size
    refine ⟨.ref h'.objs.size, _, inv_lam I1, rfl, go _ c1 _ (fun b o e _ => ?_) (tabs_new hT nf) upd_same ?_ nf (.inr known1)⟩
    · rw [upd_ne (ne_of_none e nf)]
      exact e
    · rw [upd_ne (ne_of_none known1 nf)]
      exact known1
  | none =>
    refine PySem.W.kla_makeFunction (mg := X.mg) (c := c) (P := P) (ps := ps) cl I.ok.glob (I.mod.glob.keeps I.bk) hcode (TB.code.keeps I.bk) oP tri found TB.gP bP ?_
    intro c1 ct h' tk but ge lt code tab
    obtain ⟨c2, oc, vs, t, ec, e1, e2, e3⟩ := code
    cases ec
    have nc : H c1 = none := I.hok.fresh ge
    have I1 := LamX.inv_table (t' := tk) (more := #[rawInt pos.line, rawInt pos.col, .ref c1]) I atP (fun b o nb e => but b o nb e) tab ge ⟨oc, vs, t, e1, e2, e3⟩
    have size : s.heap.objs.size ≤ h'.objs.size := Nat.le_trans ge (Nat.le_of_lt lt)
    have nP : P ≠ c1 := ne_of_none atP nc
    have nf : upd (upd H P (.tbl (ps ++ #[rawInt pos.line, rawInt pos.col, .ref c1]))) c1 (CodeO c1 (X.env.qual ++ "<lambda>")) h'.objs.size = none := I1.hok.fresh (Nat.le_refl _)
    have ext : ExtN H (upd (upd H P (.tbl (ps ++ #[rawInt pos.line, rawInt pos.col, .ref c1]))) c1 (CodeO c1 (X.env.qual ++ "<lambda>"))) := by
      intro b o e notTab
      have nbP : b ≠ P := fun z => by
        rw [z, atP] at e
        exact notTab ps (Option.some.inj e).symm
      rw [upd_ne (ne_of_none e nc), upd_ne nbP]
      exact e
    have tabs : Tabs T (upd (upd H P (.tbl (ps ++ #[rawInt pos.line, rawInt pos.col, .ref c1]))) c1 (CodeO c1 (X.env.qual ++ "<lambda>"))) := by
      rintro ⟨P', q'⟩ mem
      by_cases same : P' = P
      · subst same
        obtain rfl : q' = X.env.qual ++ "<lambda>" := hu _ mem rfl
        have list : (ps ++ #[rawInt pos.line, rawInt pos.col, .ref c1]).toList = ps.toList ++ [rawInt pos.line, rawInt pos.col, .ref c1] := by simp
        refine ⟨_, (by rw [upd_ne nP, upd_same]), ?_, fun p1 cv at1 => ?_⟩
        · rw [list]
          exact PySem.TriplesOk_snoc _ _ _ _ tri
        · rw [list] at at1
          rcases LamX.among_app _ tri at1 with z | z
          · obtain ⟨c2, y1, y2⟩ := known p1 cv z
            exact ⟨c2, y1, ext _ _ y2 LamX.codeO_ne⟩
          · exact ⟨c1, z, upd_same⟩
      · obtain ⟨ps2, a1, a2, a3⟩ := hT _ mem
        refine ⟨ps2, ?_, a2, fun p1 cv at1 => ?_⟩
        · show upd (upd H P _) c1 _ P' = _
          rw [upd_ne (ne_of_none a1 nc), upd_ne same]
          exact a1
        · obtain ⟨c2, y1, y2⟩ := a3 p1 cv at1
          exact ⟨c2, y1, ext _ _ y2 LamX.codeO_ne⟩
    refine ⟨.ref h'.objs.size, _, inv_lam I1, rfl, go _ c1 _ (fun b o e n => ?_) (tabs_new tabs nf) upd_same ?_ (I.hok.fresh size) (.inl nc)⟩
    · have e2 := ext b o e n
      rw [upd_ne (ne_of_none e2 nf)]
      exact e2
    · rw [upd_ne (Nat.ne_of_lt lt), upd_same]
/-- a call of a local that holds a def, or such a lambda -/
def tCallV (P : Program) (w : World) (K : PySem.W.Frag) (mg : Str → Option Value) (base : Heap) (k i : Nat) (t : TA) : TE := fun σ H Q =>
  ∃ f sp, σ[i]? = some (some (.ref f)) ∧ One P w K mg base k f sp ∧ Callee K H f ∧ t σ H fun vs H1 => Callee K H1 f ∧ (∃ v, vs = [v]) ∧ sp vs H1 Q E0
theorem Callee.at {f : Addr} (c : Callee X.K H f) (I : Inv X pins σ H s) : PySem.W.FnAt f s.heap := by
  rcases c with ⟨oc, od, fd, sl, e⟩ | ⟨c, q, ar, bd, sc, e⟩
  · exact ⟨oc, od, fd, sl, I.kIn _ _ e⟩
  · obtain ⟨⟨pm, ct, e⟩, _, _⟩ := I.hok f _ e
    exact ⟨_, _, _, _, e⟩
theorem pe_callV {k i : Nat} {x : Str} {p pos : Pos} {e : Expr} {es : List Expr} {t : TA} (hr : Room k X.A) (hN : X.N[i]? = some x) (hv : Vis X.env.scope x) (ha : PA X (e :: es) t)
    (hdb : (x == ("__debug__" : Str)) = false := by decide) (hcd : (x == ("__classdict__" : Str)) = false := by decide)
    (he : starEach (e :: es) X.env = (false, eval e X.env) :: starEach es X.env := by rfl) (hpl : (backTo pos (starEach es X.env)).any (·.1) = false := by rfl) :
    PE X (.Call (.Name x p) (e :: es) [] pos) (tCallV X.prog X.w X.K X.mg X.base k i t) := by
  refine ⟨fun pins s σ H Q I h => ?_⟩
  obtain ⟨f, sp, hs, F, cl, ht⟩ := h
  refine wpAny_Call_Name_kw (thn ((pe_var (pos := p) hN hv hdb hcd).run pins s σ H (fun v H1 => v = .ref f ∧ H1 = H) I ⟨.ref f, hs, rfl, rfl⟩) fun u s1 ⟨v, H1, I1, r1, q1⟩ => ?_)
  obtain ⟨rfl, rfl⟩ := q1
  cases r1
  refine PySem.W.callWith_F (cl.at I1) (thn (ha.run pos pins s1 σ _ _ I1 ht) fun us s2 ⟨vs, H2, I2, r, q⟩ => ?_) he hpl
  obtain ⟨cl2, ⟨v, rfl⟩, q⟩ := q
  refine ⟨cl2.at I2, ?_⟩
  cases r with
  | cons rv rn =>
    cases rn
    refine wpAny_call (codeAny_mono (F X.A X.stack s2 H2 _ _ Q E0 hr I2.env0 rv q) fun r s' hq => ?_)
    cases r with
    | error e => exact (hq : False).elim
    | ok fl =>
      cases fl with
      | ret u => exact I2.after hq
      | next => exact (hq : False).elim
      | brk => exact (hq : False).elim
      | cont => exact (hq : False).elim
end
end Vf

set_option Elab.async false
set_option linter.all false
set_option maxRecDepth 100000
set_option maxHeartbeats 4000000
/-! The end of a law one of whose defs makes lambdas: its code object at c, the table of what it made at P. -/
namespace Vf
open PySem PySem.Spec PyProof.Rows L2
open LamX (CodeO TabS Tabs ExtN TabB)
abbrev tab0 : Obj := { cls := .none, data := .fields #[] }
section
variable {P : Program} {w : World} {K : PySem.W.Frag}
  {mg mb : Str → Option Value} {k : Nat} {fa a : Addr} {fd : FuncData}
  {x : Str} {sp : Sp} {s₁ : Shared} {vs : List Value} {ns : List Int} {c T : Addr}

theorem law_goesT (KX : K.In s₁.heap)
    (hns : s₁.heap.Ns mainGlobals mg) (hb : s₁.heap.Ns builtinsNs mb)
    (hbb : ∀ y : Str, y ≠ "__name__" → mb y = bootBuiltins y)
    (hlim : s₁.heap.NoLimit) (hgen : s₁.gens = #[])
    (hT : s₁.heap.get? T = some tab0) (nT : K.lookup T = none) (C : PySem.W.CodeHd s₁.heap c T)
    (hbm : ∃ (bm : Addr) (ob : Obj), mg "__builtins__" = some (.ref bm) ∧ bm ≠ builtinsNs ∧ s₁.heap.get? bm = some ob ∧ ob.cls = .type "module" ∧ ob.dict = some builtinsNs ∧ ob.data = .plain)
    (ha : s₁.heap.get? a =
      some { cls := .type "list", data := .seq vs.toArray })
    (hr : Room k callerA)
    (F : ∀ base : Heap, K.In base → base.Ns mainGlobals mg → TabB base mg c T →
      FnG P w K mg base k fa fd [x] sp)
    (bind : ∀ (s : Shared) (u : Value),
      BindsTo s fd ⟨[u], []⟩ [(x, u)])
    (H : Hp) (hHT : H T = some (.tbl #[])) (hO : ∀ b, H b = none ∨ b = T ∨ ∃ o xs, H b = some (.frz o (.lst xs))) (ok : HOk P w H s₁.heap)
    (alone : ∀ b, H b ≠ none → b = a ∨ b = T)
    (notK : H a ≠ none → K.lookup a = none)
    (hs : sp [.ref a] H (fun v _ => v = .bl true) fun _ _ _ => False) :
    codeAny (model P w) callerA (.call (.ref fa) ⟨[.ref a], []⟩)
      (LawEnd s₁) s₁ := by
  have free : ∀ {b : Addr} {o : Obj}, s₁.heap.get? b = some o → (∀ xs n, o.data ≠ .seq xs n) → o.data ≠ .fields #[] → H b = none := by
    intro b o e d1 d2
    cases q : H b with
    | none => rfl
    | some u =>
      rcases alone b (by rw [q]; exact Option.some_ne_none u) with z | z
      · rw [z, ha] at e
        cases e
        exact absurd rfl (d1 _ _)
      · rw [z, hT] at e
        cases e
        exact absurd rfl d2
  have ns' : ∀ {b : Addr} {m : Str → Option Value},
      s₁.heap.Ns b m → (hidT s₁.heap H).Ns b m := by
    rintro b m ⟨o, es, ep, e, d, r⟩
    refine ⟨o, es, ep, hidT_get e (free e (fun xs n z => ?_) fun z => ?_), d, r⟩
    · rw [d] at z
      cases z
    · rw [d] at z
      cases z
  have kin : K.In (hidT s₁.heap H) := by
    intro b o e
    refine hidT_get (KX b o e) ?_
    cases q : H b with
    | none => rfl
    | some u =>
      rcases alone b (by rw [q]; exact Option.some_ne_none u) with z | z
      · have z2 := notK (by rw [← z, q]; exact Option.some_ne_none u)
        rw [z, z2] at e
        cases e
      · rw [z, nT] at e
        cases e
  have lim' : (hidT s₁.heap H).NoLimit := by
    obtain ⟨mc, h1, h2⟩ := hlim
    exact ⟨mc, ns' h1, h2⟩
  have M : Mod K mg (hidT s₁.heap H) :=
    ⟨kin, ns' hns, ⟨mb, ns' hb, hbb⟩, lim'⟩
  have notMain : mainGlobals ≠ T := fun z => by
    obtain ⟨o, es, ep, e, d, _⟩ := hns
    rw [z, hT] at e
    cases e
    cases d
  have TB : TabB (hidT s₁.heap H) mg c T := by
    refine ⟨?_, ?_, notMain⟩
    · obtain ⟨o, us, fl, tf, fg, tg, inF, tx, tt, e, r1, r2, r3, rest⟩ := C
      refine ⟨o, us, fl, tf, fg, tg, inF, tx, tt, hidT_get e (free e (fun xs n z => ?_) fun z => ?_), r1, r2, r3, rest⟩
      · rw [r2] at z
        cases z
      · rw [r2] at z
        cases z
        simp at r3
    · obtain ⟨bm, ob, m1, m2, m3, m4, m5, m6⟩ := hbm
      refine ⟨bm, ob, m1, m2, fun z => ?_, fun z => ?_, hidT_get m3 (free m3 (fun xs n z => ?_) fun z => ?_), m4, m5, m6⟩
      · obtain ⟨o, es, ep, e, d, _⟩ := hns
        rw [z, e] at m3
        cases m3
        rw [m6] at d
        cases d
      · rw [z, hT] at m3
        cases m3
        cases m6
      · rw [m6] at z
        cases z
      · rw [m6] at z
        cases z
  have none_in : ∀ b : Addr, b ∉ ([] : List Addr) := fun b => by simp
  have env : Env0 P w K mg (hidT s₁.heap H) callerA [] s₁ H :=
    ⟨rfl, M, fun b o e => of_hidT e, Nat.le_of_eq (hidT_size _ _),
      trivial, fun b z => absurd z (none_in b), ok, .of_eq hgen⟩
  refine codeAny_mono ((F _ kin (ns' hns) TB).go callerA [] s₁ H
    ⟨[.ref a], []⟩ [.ref a] [.ref a] _ _ hr rfl env
    (bind s₁ (.ref a)) (.cons rfl .nil) hs) ?_
  intro r s' h
  cases r with
  | error e => exact (h : False).elim
  | ok fl =>
    cases fl with
    | next => exact (h : False).elim
    | brk => exact (h : False).elim
    | cont => exact (h : False).elim
    | ret u =>
      obtain ⟨v, H', os, bare, un, ok', rv, q⟩ := h
      obtain rfl : v = .bl true := q
      obtain rfl : u = Value.bool true := rv
      have same : ∀ b o, b ≠ T → s₁.heap.get? b = some o → s'.heap.get? b = some o := by
        intro b o nb e
        cases q : H b with
        | none => exact un.keep b o e q (none_in b) (none_in b)
        | some u =>
          rcases hO b with z | z | ⟨ob, xs, z⟩
          · rw [q] at z
            cases z
          · exact absurd z nb
          · obtain ⟨e1, _⟩ := ok b _ z
            obtain ⟨e2, _⟩ := ok' b _ (un.frzs b ob _ z)
            rw [e] at e1
            cases e1
            exact e2
      obtain ⟨more, z⟩ := un.tbls T #[] hHT
      have grown : s'.heap.get? T = some { cls := .none, data := .fields (#[] ++ more) } := ok' T _ z
      refine ⟨rfl, ⟨fun b o e => ?_, fun b o e => ?_⟩, os, bare⟩
      · by_cases nb : b = T
        · subst nb
          rw [hT] at e
          cases e
          exact .inr (.inl ⟨(C.tab hT).isCodeTable, rfl, #[], more, rfl, grown⟩)
        · exact .inl (same b o nb e)
      · by_cases nb : b = T
        · subst nb
          exact ⟨_, grown⟩
        · exact ⟨o, same b o nb e⟩

theorem law_goesT2 (KX : K.In s₁.heap)
    (hns : s₁.heap.Ns mainGlobals mg) (hb : s₁.heap.Ns builtinsNs mb)
    (hbb : ∀ y : Str, y ≠ "__name__" → mb y = bootBuiltins y)
    (hlim : s₁.heap.NoLimit) (hgen : s₁.gens = #[])
    (hT : s₁.heap.get? T = some tab0) (nT : K.lookup T = none) (C : PySem.W.CodeHd s₁.heap c T)
    (hbm : ∃ (bm : Addr) (ob : Obj), mg "__builtins__" = some (.ref bm) ∧ bm ≠ builtinsNs ∧ s₁.heap.get? bm = some ob ∧ ob.cls = .type "module" ∧ ob.dict = some builtinsNs ∧ ob.data = .plain)
    (ha : s₁.heap.get? a =
      some { cls := .type "list", data := .seq vs.toArray })
    (hi : IntsAre vs ns) (hl : ns.length ≤ sizeLine)
    (hr : Room k callerA)
    (F : ∀ base : Heap, K.In base → base.Ns mainGlobals mg → TabB base mg c T →
      FnG P w K mg base k fa fd [x] sp)
    (bind : ∀ (s : Shared) (u : Value),
      BindsTo s fd ⟨[u], []⟩ [(x, u)])
    (hs : ∀ H : Hp, H T = some (.tbl #[]) → SqL K H a (ns.map V.int) →
      sp [.ref a] H (fun v _ => v = .bl true) fun _ _ _ => False) :
    codeAny (model P w) callerA (.call (.ref fa) ⟨[.ref a], []⟩)
      (LawEnd s₁) s₁ := by
  have rv := vals_ints hi
  have aT : a ≠ T := fun z => by
    rw [z, hT] at ha
    cases ha
  cases hk : K.lookup a with
  | some o =>
    have e := KX a o hk
    rw [ha] at e
    cases e
    refine law_goesT KX hns hb hbb hlim hgen hT nT C hbm ha hr F bind
      (fun b => if b = T then some (.tbl #[]) else none) (if_pos rfl) (fun b => ?_) (fun b u z => ?_)
      (fun b z => ?_) (fun z => absurd (if_neg aT) z) (hs _ (if_pos rfl) ?_)
    · by_cases q : b = T
      · exact .inr (.inl q)
      · exact .inl (if_neg q)
    · by_cases q : b = T
      · have z' := (if_pos q).symm.trans z
        cases z'
        subst q
        exact hT
      · have z' := (if_neg q).symm.trans z
        cases z'
    · by_cases q : b = T
      · exact .inr q
      · exact absurd (if_neg q) z
    refine .inr ⟨_, vs.toArray, _, hk, rfl, rfl, rfl, ?_, by simpa using rv⟩
    rw [List.size_toArray, hi.length]
    exact hl
  | none =>
    have e1 : ∀ {p q : Option HO}, (if T = a then p else if T = T then q else none) = q := fun {p q} => by
      rw [if_neg aT.symm, if_pos rfl]
    refine law_goesT KX hns hb hbb hlim hgen hT nT C hbm ha hr F bind
      (fun b => if b = a then some (.frz { cls := .type "list", data := .seq vs.toArray } (.lst (ns.map V.int))) else if b = T then some (.tbl #[]) else none) e1 (fun b => ?_)
      (fun b u z => ?_) (fun b z => ?_) (fun _ => hk)
      (hs _ e1 (.inl (.inr ⟨_, if_pos rfl⟩)))
    · by_cases q : b = a
      · exact .inr (.inr ⟨_, _, if_pos q⟩)
      · by_cases q2 : b = T
        · exact .inr (.inl q2)
        · exact .inl ((if_neg q).trans (if_neg q2))
    · by_cases q : b = a
      · have z' := (if_pos q).symm.trans z
        cases z'
        subst q
        exact ⟨ha, by rw [List.length_map]; exact hl, vs, _, rv, ha⟩
      · by_cases q2 : b = T
        · have z' := ((if_neg q).trans (if_pos q2)).symm.trans z
          cases z'
          subst q2
          exact hT
        · have z' := ((if_neg q).trans (if_neg q2)).symm.trans z
          cases z'
    · by_cases q : b = a
      · exact .inl q
      · by_cases q2 : b = T
        · exact .inr q2
        · exact absurd ((if_neg q).trans (if_neg q2)) z
end

/-- the goal that the head leaves -/
theorem walk_ofT {l : PySem.W.OpenLaw} {n k : Nat} {q : Program}
    {loose : List Str} {XP : (Str → Option Value) → Heap → Prop}
    {YP : World → Heap → Prop} {d : DefRec}
    {K : Params → PySem.W.Frag} {sp : World → Sp} {x : Str} {T : Addr}
    (hn : l.most = some n) (hn2 : n ≤ sizeLine)
    (hdf : d.params.defaults = []) (hr : Room k callerA)
    (hY : ∀ (w : World) (h : Heap), YP w h → (K w.params).In h ∧ h.get? T = some tab0)
    (F : ∀ (w : World) (mg : Str → Option Value) (fa : Addr) (h : Heap),
      (K w.params).In h → h.Ns mainGlobals mg →
      mg d.name = some (.ref fa) →
      ∃ (fd : FuncData) (c : Addr), PySem.W.codeHdIn (K w.params) c T = true ∧ (K w.params).lookup T = none ∧
        (∀ (s : Shared) (u : Value), BindsTo s fd ⟨[u], []⟩ [(x, u)]) ∧
        ∀ base : Heap, (K w.params).In base → base.Ns mainGlobals mg → TabB base mg c T →
          FnG l.prog w (K w.params) mg base k fa fd [x] (sp w))
    (hsp : ∀ (w : World) (H : Hp) (a : Addr) (ns : List Int),
      ns.length ≤ n → H T = some (.tbl #[]) → SqL (K w.params) H a (ns.map V.int) →
      sp w [.ref a] H (fun v _ => v = .bl true) fun _ _ _ => False) :
    PySem.W.WalkO q loose XP YP l.row.toRowW d []
      (fun f vs => PySem.call f vs) := by
  refine Att.attach_call hn hdf ?_
  intro w s₀ s₁ mg mb fa o pm cd doc a vs ns G Y ho hd hcd hmg hobj hints hlen hg
  obtain ⟨KX, hT⟩ := hY w _ Y
  obtain ⟨fd, c, hC, nT, hb, hF⟩ := F w mg fa _ KX G.T.g hmg
  exact law_goesT2 KX G.T.g G.T.b G.T.builtins G.T.nolimit hg hT nT (PySem.W.codeHd_of_K KX hC) G.T.bmain hobj
    hints (Nat.le_trans hlen hn2) hr hF hb
    (fun H hO hS => hsp w H a ns hlen hO hS)

/-- a def of the text whose code object is known -/
structure DefC (K : PySem.W.Frag) (mg : Str → Option Value) (x : Str) (st : Stmt) (ps : List Str) (cd : Value) : Prop where
  ex : ∃ (f : Addr) (oc : Value) (od an : Option Addr) (sl : Array (Option Value)) (kV dc pm ct : Value),
    K.lookup f = some ⟨oc, od, .func (PySem.W.fnOf x x (defArgs st) (defBody st) (defScope st) .none kV dc pm an cd ct), sl⟩ ∧
    PySem.W.codeIn K cd x = true ∧ PySem.W.keepIn K (.ref f) = true ∧ mg x = some (.ref f) ∧
    Binds K (PySem.W.fnOf x x (defArgs st) (defBody st) (defScope st) .none kV dc pm an cd ct) ps []
theorem calOfC {P : Program} {w : World} {K : PySem.W.Frag} {mg : Str → Option Value} {base : Heap} {x : Str} {st : Stmt} {N ps : List Str} {k : Nat} {sp : Sp} {cd : Value}
    (D : DefC K mg x st ps cd) (S : FnScope N ps (defScope st))
    (many : ∀ vs H Q E, sp vs H Q E → vs.length = ps.length)
    (body : ∀ (f : Addr) (A : Around) (outer : List Env) (s : Shared) (H : Hp) (vs : List V) (Q : VK) (E : XK),
      Room k (A.deeper (envOfC x (defScope st) s.heap.objs.size f cd)) → sp vs H Q E →
      ∃ t, PSs (cxOf CX0 P w K mg base N x (defScope st) f cd A outer s H E).nox (defBody st) t ∧ t { nx := fun _ H' => Q .non H', rt := Q } (start N vs) H) :
    C8.Cal P w K mg base (k + 1) x sp [] := by
  obtain ⟨f, oc, od, an, sl, kV, dc, pm, ct, lk, hcd, kp, hm, hb⟩ := D.ex
  refine ⟨f, _, ps, [], ⟨many, fun A outer s H args us vs Q E hr e0 hb r hsp => ?_⟩, hm, kp, hb, .nil⟩
  have hlen := many _ _ _ _ hsp
  have KX : K.In s.heap := e0.mod.kin.keeps fun b o e => (e0.bs b o e).1
  have lim := e0.mod.nolimit.keeps fun b o e => (e0.bs b o e).1
  have kinds : ∀ y ∈ ps.zip us, (defScope st).names.lookup y.1 = some .local ∨
      ((defScope st).names.lookup y.1 = some .cell ∧ ((cellsFrom (s.heap.objs.size + 1) (defScope st).names []).lookup y.1).isSome = true) := by
    rintro ⟨n, v⟩ hy
    cases S.par n (List.of_mem_zip hy).1 with
    | inl q => exact .inl q
    | inr q => exact .inr ⟨q, PySem.W.cellsFrom_some _ _ _ (.inl q)⟩
  refine codeAny_call_function hr.depth (KX _ _ lk) rfl S.co S.gen rfl (PySem.W.codeRec_of KX hcd) (hb _ _ _ _ ?_)
  refine wpAny_newFunctionEnv_cells S.kind kinds fun env he s1 y => ?_
  subst he
  refine ⟨lim.keeps y.toInCall.keep, codeAny_func ?_⟩
  obtain ⟨t, ht, hq⟩ := body f A outer s H vs Q E (hr.deeper _) hsp
  have I := inv_start (CX := CX0) (E := E) S hr.hd e0 hlen r y
  refine wpAny_mono (ht.nox.run [] s1 (start N vs) H _ I hq) (fun fl s' hs => ?_) (fun _ _ hs => hs)
  cases fl with
  | brk => exact (hs.choose_spec.choose_spec.2 : False).elim
  | cont => exact (hs.choose_spec.choose_spec.2 : False).elim
  | next =>
    obtain ⟨_, H', J, q⟩ := hs
    exact ⟨V.non, H', J.os, J.bare, J.base, J.hok, rfl, q⟩
  | ret u =>
    obtain ⟨v, _, H', J, rv, q⟩ := hs
    exact ⟨v, H', J.os, J.bare, J.base, J.hok, rv, q⟩
end Vf

set_option Elab.async false
set_option linter.all false
set_option maxRecDepth 100000
set_option maxHeartbeats 4000000
/-! Own words: an error class of one field; try whose first clause, with a name, takes all that comes. -/
namespace Vf
open PySem PySem.Spec PyProof.Rows L2

/-- the ends behind a suite; what stood in slot i is gone there -/
def clearE (i : Nat) (D : Ends) : Ends :=
  ⟨fun τ G => D.nx (τ.set i none) G, D.rt, fun τ G => D.bk (τ.set i none) G, fun τ G => D.ct (τ.set i none) G⟩
/-- wished of an exception of the body: it is the first clause's -/
def wHd (K : PySem.W.Frag) (c : Value) (i : Nat) (ts : Addr → Value → Option Addr → TS) (D : Ends) : WX :=
  fun z d τ G => PySem.W.exmOne K z c = some true ∧ ∀ a, G a = none → ts a z d (clearE i D) (τ.set i (some (.ref a))) G

section
variable {X : Cx} {x n : Str} {c : Value} {i : Nat} {body suite : List Stmt} {st : Stmt} {np pos q : Pos} {more : List ExceptHandler}
  {tb : WX → TS} {ts : Addr → Value → Option Addr → TS} {D : Ends} {pins : List (Addr × Obj)} {τ : L2.St} {G : Hp} {s : Shared}
/-- the suite runs with the exception in slot i, which is gone behind it -/
theorem hd_suite {a : Addr} {oe : Obj} {z : Value} {d : Option Addr} {vs : Array Value} (nd : X.N.Nodup) (hi : X.N[i]? = some n) (loc : X.env.kindOf n = some .local)
    (run : PSs (X.suite a ((a, oe) :: (X.pn ++ pins))) (st :: suite) (ts a z d)) (J : Inv X pins τ G s)
    {R : Flow → Shared → Prop} {Er Es : Value → Shared → Prop} (hR : ∀ fl t, wpAny (model X.prog X.w) X.A (do bindName X.env n .none; unbindBehindTheSuite X.env n q) (fun _ u => SP X pins D fl u) X.xe t → R fl t)
    (e : s.heap.get? a = some oe) (f : oe.data = .fields vs) (na : G a = none) (nl : a ≠ X.env.locals) (nf : a ∉ X.fs)
    (h : ts a z d (clearE i D) (τ.set i (some (.ref a))) G) :
    wpAny (model X.prog X.w) (X.A.mark (some (.ref a))) (storeName X.env n (.ref a))
      (fun _ t => wpAny (model X.prog X.w) (X.A.mark (some (.ref a))) (execs (st :: suite) X.env) R Er t) Es s := by
  have S := J.suite e f na nl nf
  refine store_ok (X := X.suite a ((a, oe) :: (X.pn ++ pins))) (v := .ref a) S nd hi (.inl loc) rfl (fun t T => ?_) (.inr loc)
  refine wpAny_mono (run.run [] t _ G _ T h) (fun fl u hu => hR fl u ?_) fun _ _ no => no.elim
  have away : ∀ {τ' : L2.St} {G' : Hp}, Inv (X.suite a ((a, oe) :: (X.pn ++ pins))) [] τ' G' u → (∀ u', Inv X pins (τ'.set i none) G' u' → SP X pins D fl u') →
      wpAny (model X.prog X.w) X.A (do bindName X.env n .none; unbindBehindTheSuite X.env n q) (fun _ u' => SP X pins D fl u') X.xe u :=
    fun I' k => gone_ok (I'.unsuite J.ok) nd hi loc k
  cases fl with
  | ret v =>
    obtain ⟨v', τ', G', I', r, w⟩ := hu
    exact away I' fun u' J' => ⟨v', _, G', J', r, w⟩
  | next =>
    obtain ⟨τ', G', I', w⟩ := hu
    exact away I' fun u' J' => ⟨_, G', J', w⟩
  | brk =>
    obtain ⟨τ', G', I', w⟩ := hu
    exact away I' fun u' J' => ⟨_, G', J', w⟩
  | cont =>
    obtain ⟨τ', G', I', w⟩ := hu
    exact away I' fun u' J' => ⟨_, G', J', w⟩
end
end Vf
namespace Vf
open PySem PySem.Spec PyProof.Rows L2
section
variable {X : Cx} {x n : Str} {c : Value} {i : Nat} {body suite : List Stmt} {st : Stmt} {np pos q : Pos} {more : List ExceptHandler}
  {tb : WX → TS} {ts : Addr → Value → Option Addr → TS} {D : Ends} {pins : List (Addr × Obj)} {s : Shared} {e : Value} {xo : Value → Shared → Prop}
/-- an exception that has landed is no frame -/
theorem no_frame {B : Heap} {es : List Env} {h : Heap} {a : Addr} {o : Obj} {vs : Array Value} (fr : h.FunFrames B es) (g : h.get? a = some o) (f : o.data = .fields vs) : a ∉ frs es := fun m => by
  obtain ⟨_, u, g', no⟩ := fr.mem m
  obtain rfl := Option.some.inj (g.symm.trans g')
  exact no _ f
/-- the name of the clause is read -/
theorem hd_name {a : Addr} {oe : Obj} {τ : L2.St} {G : Hp} {Q : Value → Shared → Prop} {Er : Value → Shared → Prop} (hc : Names X x c) (S : Inv (X.suite a ((a, oe) :: (X.pn ++ pins))) [] τ G s) (k : Q c s) :
    wpAny (model X.prog X.w) (X.A.mark (some (.ref a))) (eval (.Name x np) X.env) Q Er s := by
  rcases hc with ⟨gl, nb, own | ⟨free, boot, nn⟩⟩
  · exact ld_glob S gl own k nb
  · exact ld_blt S gl free boot k nn nb
theorem hd_catch (hs : X.stack = X.env :: X.outer) (hf : X.env.frame = some X.env.locals) (nd : X.N.Nodup) (hi : X.N[i]? = some n) (loc : X.env.kindOf n = some .local) (hc : Names X x c) (ok : X.Ok)
    (hsu : ∀ (a : Addr) (oe : Obj) (z : Value) (d : Option Addr) (pn : List (Addr × Obj)), Zc z d oe → (∃ vs, oe.data = .fields vs) → PSs (X.suite a ((a, oe) :: pn)) (st :: suite) (ts a z d))
    (air : XE (X.tr (X.pn ++ pins) xo) (wHd X.K c i ts D) e s) :
    wpAny (model X.prog X.w) X.A (noteFrame e X.env) (fun _ t => wpAny (model X.prog X.w) X.A (setFlight e none)
      (fun _ u => wpAny (model X.prog X.w) X.A (handleBy e X.env (.ExceptHandler (some (.Name x np)) (some n) (st :: suite) q :: more)) (SP X pins D) X.xe u) X.xe t) X.xe s := by
  obtain ⟨a, B, s0, pn, τ, G, z, d, rfl, J0, new, up, sky, na, os, bare, me, go⟩ := air
  have J : Inv X pins τ G s0 := J0.ofTry ok
  have frames : X.A.frames = some (X.env :: X.outer) := ok.frames.trans (congrArg some hs)
  refine Sky.land (B := B) Zc.steady frames hf (by rw [← hs]; exact sky) fun h1 fl1 up1 => ?_
  have J1 : Inv X pins τ G { s with heap := h1 } := J.landed new fl1.1 (up.trans up1) os bare
  obtain ⟨o1, v1, g1, z1, d1⟩ := fl1.there
  have nf := no_frame fl1.2.2.1 g1 d1
  have nl : a ≠ X.env.locals := fun eq => nf (List.mem_filterMap.mpr ⟨X.env, List.mem_cons_self, hf.trans (congrArg some eq.symm)⟩)
  have nfs : a ∉ X.fs := fun m => by
    obtain ⟨en, m1, m2⟩ := List.mem_filterMap.mp m
    exact nf (List.mem_filterMap.mpr ⟨en, List.mem_cons_of_mem _ m1, m2⟩)
  refine wpAny_handleBy_cons (codeAny_handlers_test (hd_name hc (J1.suite g1 d1 na nl nfs) ?_)) (fun no => by cases no)
  have lt : PySem.W.Looks (model X.prog X.w) h1 (typeOf (.ref a)) z := fun _ _ _ _ k w => wpAny_typeOf_ref (k _ _ g1) (by rw [z1.1]; exact w)
  refine (PySem.W.exm_one J1.kIn lt me).here (codeAny_handlers_suite_as (HandSPX.lands_againZ fl1 fun h2 fl2 up2 => ?_))
  obtain ⟨o2, v2, g2, z2, d2⟩ := fl2.there
  have J2 : Inv X pins τ G { s with heap := h2 } := J.landed new fl2.1 ((up.trans up1).trans up2) os bare
  exact hd_suite nd hi loc (hsu a o2 z d (X.pn ++ pins) z2 ⟨_, d2⟩) J2 (fun fl t w => w) g2 d2 na nl nfs (go a na)
/-- try: body, except x as n: suite, and more clauses that nothing comes to -/
theorem ps_try_hd (hs : X.stack = X.env :: X.outer) (hf : X.env.frame = some X.env.locals) (nd : X.N.Nodup) (hi : X.N[i]? = some n) (loc : X.env.kindOf n = some .local) (hc : Names X x c)
    (hb : ∀ (W : WX) (pn : List (Addr × Obj)) (xe : Value → Shared → Prop), Takes (X.tr pn xe) W → PSs (X.tr pn xe) body (tb W))
    (hsu : ∀ (a : Addr) (oe : Obj) (z : Value) (d : Option Addr) (pn : List (Addr × Obj)), Zc z d oe → (∃ vs, oe.data = .fields vs) → PSs (X.suite a ((a, oe) :: pn)) (st :: suite) (ts a z d)) :
    PS X (.Try body (.ExceptHandler (some (.Name x np)) (some n) (st :: suite) q :: more) [] [] pos) (fun D τ G => tb (wHd X.K c i ts D) D τ G) := by
  refine ⟨fun pins s τ G D I h => wpAny_Try_except ?_⟩
  have ok := I.ok
  have run := (hb (wHd X.K c i ts D) (X.pn ++ pins) _ fun u t air => hd_catch (np := np) (q := q) (more := more) hs hf nd hi loc hc ok hsu air).run [] s τ G D (I.toTry _) h
  refine wpAny_mono run (fun fl t w => ?_) fun _ _ w => w
  cases fl with
  | ret v =>
    obtain ⟨v', τ', G', J, r, w⟩ := w
    exact ⟨v', τ', G', J.ofTry ok, r, w⟩
  | next =>
    obtain ⟨τ', G', J, w⟩ := w
    exact wpAny_execs_nil ⟨τ', G', J.ofTry ok, w⟩
  | brk =>
    obtain ⟨τ', G', J, w⟩ := w
    exact ⟨τ', G', J.ofTry ok, w⟩
  | cont =>
    obtain ⟨τ', G', J, w⟩ := w
    exact ⟨τ', G', J.ofTry ok, w⟩
end
end Vf
namespace Vf
open PySem PySem.Spec PyProof.Rows L2
/-- an error class of the text that keeps one thing -/
structure XcT (K : PySem.W.Frag) (mg : Str → Option Value) (x fld : Str) (C fI : Addr) : Prop where
  gl : mg x = some (.ref C)
  cl : OexC K C
  ini : PySem.W.findIn K (.ref C) "__init__" = some (some (.ref fI))
  fn : PySem.W.typeIn K (.ref fI) = some (.type "function")
  no : PySem.W.findIn K (.ref C) fld = some none
  xf : XfC K C
  me : PySem.W.exmOne K (.ref C) (.ref C) = some true
/-- its __init__ -/
def spXi (C : Addr) (fld : Str) : Sp := fun vs H Q _ => ∃ (a : Addr) (v : V), vs = [.ref a, v] ∧ H a = some (exo a C none) ∧
  ∀ d, H d = none → d ≠ a → Q .non (upd (upd H d (exd d [(fld, v)])) a (exo a C (some d)))
theorem xi_ok {P : Program} {w : World} {K : PySem.W.Frag} {mg : Str → Option Value} {base : Heap} {x fld qual : Str} {C fI : Addr} {fd : FuncData} {sI : Stmt} {p1 p2 p3 p4 : Pos}
    (T : XcT K mg x fld C fI) (F : Fun K "__init__" qual sI fI fd) (S : FnScope ["self", fld] ["self", fld] (defScope sI))
    (hb : defBody sI = [.Assign [.Attribute (.Name "self" p1) fld p2] (.Name fld p3) p4])
    (v1 : Vis (defScope sI) "self") (v2 : Vis (defScope sI) fld) (nb : (fld == ("__debug__" : Str)) = false) (nc : (fld == ("__classdict__" : Str)) = false) :
    FnOk P w K mg base CX0 1 fI fd ["self", fld] (spXi C fld) := by
  refine F.ok S (fun vs H Q E h => ?_) (fun cdv A outer s H vs Q E hr h => ?_)
  · obtain ⟨a, v, rfl, _⟩ := h
    rfl
  · obtain ⟨a, v, rfl, ha, k⟩ := h
    rw [hb]
    refine ⟨_, pss_one (ps_ost (f := fld) (pe_var (i := 0) rfl v1 (by decide) (by decide)) (pe_var (i := 1) rfl v2 nb nc)), ?_⟩
    exact ⟨_, rfl, _, rfl, a, C, rfl, T.cl, T.no, .inl ⟨ha, fun d nd ne => k d nd ne⟩⟩
/-- the class, ready to be raised -/
structure XcR (P : Program) (w : World) (K : PySem.W.Frag) (mg : Str → Option Value) (base : Heap) (x fld : Str) (C : Addr) : Prop where
  ex : ∃ (fI : Addr) (fd : FuncData), XcT K mg x fld C fI ∧ FnOk P w K mg base CX0 1 fI fd ["self", fld] (spXi C fld) ∧ Binds K fd ["self", fld] []
theorem ps_raiseX {X : Cx} {W : WX} {x fld : Str} {C : Addr} {k : Nat} {e : Expr} {ta : TA} {p pos pos2 : Pos} (hc : X.calm = true) (R : XcR X.prog X.w X.K X.mg X.base x fld C) (hr : Room k X.A) (h2 : 2 ≤ k) (tk : Takes X W) (ha : PA X [e] ta) (hg : Gl X x := by rfl)
    (hdb : (x == ("__debug__" : Str)) = false := by decide) (he : starEach (e :: []) X.env = (false, eval e X.env) :: starEach [] X.env := by rfl) (hpl : (backTo pos (starEach [] X.env)).any (·.1) = false := by rfl) :
    PS X (.Raise (some (.Call (.Name x p) [e] [] pos)) none pos2) (fun _ σ H => tMkO C (spXi C fld) [] ta σ H fun cls d H' => W cls d σ H') := by
  obtain ⟨fI, fd, T, F, b⟩ := R.ex
  exact ps_raise hc tk (pmk_oex T.cl T.ini T.fn F (hr.mono h2) b .nil pass0 hg T.gl ha hdb he hpl)
/-- what is asked where it is made -/
theorem raiseX_in {C : Addr} {fld : Str} {H1 : Hp} {v : V} {Q : XK} (h : ∀ d H2, Same H1 H2 → H1 d = none → H2 d = some (.xd [(fld, v)]) → Q (.ref C) (some d) H2) :
    [v].length ≤ 1000 ∧ ∀ a, H1 a = none → spXi C fld (.ref a :: ([v] ++ [])) (upd H1 a (exo a C none))
      (fun u H2 => u = .non ∧ ∃ (d : Addr) (fs : List (Str × V)), H2 a = some (exo a C (some d)) ∧ H2 d = some (exd d fs) ∧ H1 d = none ∧ Q (.ref C) (some d) (upd (del H2 a) d (.xd fs))) (fun _ _ _ => False) := by
  refine ⟨Nat.le_trans (Nat.le_refl 1) (by decide), fun a na => ⟨a, v, rfl, upd_same, fun d nd ne => ⟨rfl, d, [(fld, v)], upd_same, ?_, ?_, h d _ (fun b o hb => ?_) ?_ upd_same⟩⟩⟩
  · rw [upd_ne ne, upd_same]
  · rw [upd_ne ne] at nd
    exact nd
  · rw [upd_ne ne] at nd
    rw [upd_ne (ne_of_none hb nd), del_ne (ne_of_none hb na), upd_ne (ne_of_none hb na), upd_ne (ne_of_none hb nd), upd_ne (ne_of_none hb na)]
    exact hb
  · rw [upd_ne ne] at nd
    exact nd
theorem sameT {K : PySem.W.Frag} {H H' : Hp} {a : Addr} {xs : List V} (e : Same H H') (h : SqT K H a xs) : SqT K H' a xs := by
  rcases h with (h | ⟨o, h⟩) | h
  · exact .inl (.inl (e _ _ h))
  · exact .inl (.inr ⟨o, e _ _ h⟩)
  · exact .inr h
/-- what a for walks: a list or a tuple -/
theorem pi_either {X : Cx} {tg l : Expr} {tl : TE} (hl : PE X l tl) : PI X tg l (fun σ H R => iList X.K tl σ H R ∨ iTup X.K tl σ H R) :=
  ⟨fun pins s σ H R I h => h.elim ((pi_list hl).run pins s σ H R I) ((pi_tup hl).run pins s σ H R I)⟩
/-- the turns over either -/
theorem for_either {K : PySem.W.Frag} {a : Addr} {xs : List V} {i : Nat} {g : TG} {tb : TS} {D : Ends} {σ : L2.St} {H0 H : Hp} (hq : SqL K H0 a xs ∨ SqT K H0 a xs) (hi : σ[i]? = some (some (.ref a)))
    (Pv : Nat → L2.St → Hp → Prop) (h0 : Pv 0 σ H) (hl : ∀ i σ' H', Pv i σ' H' → Same H0 H')
    (hs : ∀ i x σ H, xs[i]? = some x → Pv i σ H → g x σ H fun σ2 H2 => tb { D with nx := Pv (i + 1), ct := Pv (i + 1), bk := D.nx } σ2 H2) (hd : ∀ σ H, Pv xs.length σ H → D.nx σ H) :
    tFor (fun σ H R => iList K (tVar i) σ H R ∨ iTup K (tVar i) σ H R) g tb D σ H := by
  rcases hq with hq | hq
  · exact .inl ⟨.ref a, hi, a, rfl, ⟨xs, (hl 0 σ H h0).seq hq⟩, for_list (K := K) (a := a) (xs := xs) Pv h0 (fun j σ' H' _ p => (hl j σ' H' p).seq hq) hs hd⟩
  · exact .inr ⟨.ref a, hi, a, rfl, ⟨xs, sameT (hl 0 σ H h0) hq⟩, for_tup (K := K) (a := a) (xs := xs) Pv h0 (fun j σ' H' _ p => sameT (hl j σ' H' p) hq) hs hd⟩
end Vf
namespace Vf
open PySem PySem.Spec PyProof.Rows L2
/-- a def of the text that may raise -/
structure CalX (P : Program) (w : World) (K : PySem.W.Frag) (mg : Str → Option Value) (base : Heap) (k : Nat) (x : Str) (ps : List Str) (sp : Sp) : Prop where
  ex : ∃ (f : Addr) (fd : FuncData), FnOk P w K mg base (L2.CX P w) k f fd ps sp ∧ mg x = some (.ref f) ∧ PySem.W.keepIn K (.ref f) = true ∧ Binds K fd ps []
theorem calXOf {P : Program} {w : World} {K : PySem.W.Frag} {mg : Str → Option Value} {base : Heap} {x : Str} {st : Stmt} {N ps : List Str} {k : Nat} {sp : Sp}
    (D : DefIn K mg x st ps) (S : FnScope N ps (defScope st)) (many : ∀ vs H Q E, sp vs H Q E → vs.length = ps.length)
    (body : ∀ (f : Addr) (cdv : Value) (A : Around) (outer : List Env) (s : Shared) (H : Hp) (vs : List V) (Q : VK) (E : XK),
      Room k (A.deeper (envOfC x (defScope st) s.heap.objs.size f cdv)) → sp vs H Q E →
      ∃ t, PSs (cxOf (L2.CX P w) P w K mg base N x (defScope st) f cdv A outer s H E) (defBody st) t ∧ t { nx := fun _ H' => Q .non H', rt := Q } (start N vs) H) :
    CalX P w K mg base (k + 1) x ps sp := by
  obtain ⟨f, fd, F, hm, hb⟩ := D.ex
  exact ⟨f, fd, F.okX S many (fun cdv A o s H vs Q E hr h => body f cdv A o s H vs Q E hr h), hm, F.kp, hb⟩
theorem pe_cX {X : Cx} {k j : Nat} {x : Str} {ps : List Str} {sp : Sp} {W : WX} {p pos : Pos} {e : Expr} {es : List Expr} {t : TA} (c : CalX X.prog X.w X.K X.mg X.base k x ps sp) (hr : Room j X.A) (hk : k ≤ j) (hg : Gl X x) (tk : Takes X W) (ha : PA X (e :: es) t)
    (hdb : (x == ("__debug__" : Str)) = false := by decide) (he : starEach (e :: es) X.env = (false, eval e X.env) :: starEach es X.env := by rfl) (hpl : (backTo pos (starEach es X.env)).any (·.1) = false := by rfl) :
    PE X (.Call (.Name x p) (e :: es) [] pos) (tCallS sp (WE W) t) := by
  obtain ⟨f, fd, F, hm, kp, b⟩ := c.ex
  exact pe_callS F (hr.mono hk) hg hm kp b (fun σ => passAt tk σ) ha hdb he hpl
end Vf
namespace Vf
open PySem PySem.Spec PyProof.Rows L2
/-- an error of the class itself is what a clause of it names -/
theorem exm_me {K : PySem.W.Frag} {S : Addr} (sub : PySem.W.subIn K (.ref S) (.type "BaseException") = some true) (is : PySem.W.isClsIn K S = true) (ty : PySem.W.typeIn K (.ref S) = some (.type "type")) (own : PySem.W.subIn K (.ref S) (.ref S) = some true) :
    PySem.W.exmOne K (.ref S) (.ref S) = some true := by
  have is' : (PySem.W.clsIn K S).isSome = true := is
  unfold PySem.W.exmOne PySem.W.kitCls
  simp only [sub, is', ty, own, beq_self_eq_true, Bool.and_self, if_true]
end Vf

set_option Elab.async false
set_option linter.all false
set_option maxRecDepth 100000
set_option maxHeartbeats 4000000
/-! Own words: changes of texts. -/
namespace Vf
open PySem PySem.Spec PyProof.Rows L2
open TL (tl joinL tl_join join_eq)
theorem tl_inj {x y : Str} (h : tl x = tl y) : x = y := Str.ext' (Array.toList_inj.mp h)
theorem tl_cat (x y : Str) : tl (x ++ y) = tl x ++ tl y := by
  show (x ++ y).cps.toList = _
  rw [Str.cps_append, Array.toList_append]
theorem joinL_nil : ∀ l : List (List Nat), joinL [] l = l.flatten
  | [] => rfl
  | [p] => by simp [joinL]
  | p :: q :: r => by
    show p ++ ([] ++ joinL [] (q :: r)) = p ++ (q :: r).flatten
    rw [joinL_nil (q :: r)]
    rfl
theorem tl_glue (l : List Str) : tl (Txt.join "" l) = (l.map tl).flatten := by
  rw [join_eq, tl_join]
  exact joinL_nil _
theorem glue_snoc (l m : List Str) : Txt.join "" (l ++ m) = Txt.join "" l ++ Txt.join "" m := by
  apply tl_inj
  rw [tl_cat, tl_glue, tl_glue, tl_glue, List.map_append, List.flatten_append]
theorem glue_two (l : List Str) (x y : Str) : Txt.join "" (l ++ [x, y]) = Txt.join "" l ++ x ++ y := by
  apply tl_inj
  rw [glue_snoc, tl_cat, tl_cat, tl_cat, tl_glue [x, y]]
  simp
theorem str_len (x : Str) : x.length = (tl x).length := by
  simp [Str.length]
theorem glue_len (l : List Str) : (Txt.join "" l).length = (l.map (·.length)).sum := by
  rw [str_len, tl_glue, List.length_flatten, List.map_map]
  congr 1
theorem sum_le {n : Nat} : ∀ {l : List Str}, (∀ x ∈ l, x.length ≤ n) → (l.map (·.length)).sum ≤ l.length * n
  | [], _ => Nat.zero_le _
  | x :: r, h => by
    have a := h x (List.mem_cons_self ..)
    have b := sum_le fun y hy => h y (List.mem_cons_of_mem _ hy)
    simp only [List.map_cons, List.sum_cons, List.length_cons, Nat.succ_mul]
    omega
/-- signs that can be shown -/
def Nice (x : Str) : Prop := ∀ c ∈ tl x, c < 0x110000
theorem Nice.tame {x : Str} (h : Nice x) : Vf.tame (.str x) = true := by
  show x.cps.all _ = true
  rw [← Array.all_toList, List.all_eq_true]
  exact fun c hc => decide_eq_true (h c hc)
theorem Nice.cat {x y : Str} (a : Nice x) (b : Nice y) : Nice (x ++ y) := fun c hc => by
  rw [tl_cat, List.mem_append] at hc
  exact hc.elim (a c) (b c)
theorem Nice.glue {l : List Str} (h : ∀ x ∈ l, Nice x) : Nice (Txt.join "" l) := fun c hc => by
  rw [tl_glue, List.mem_flatten] at hc
  obtain ⟨p, hp, hc⟩ := hc
  obtain ⟨x, hx, rfl⟩ := List.mem_map.mp hp
  exact h x hx c hc
theorem cut_mem {x : Str} {lo hi : Option Int} {c : Nat} (h : c ∈ tl (cutS x lo hi)) : c ∈ tl x := by
  unfold cutS at h
  simp only [tl] at h ⊢
  first
    | exact List.mem_of_mem_drop (List.mem_of_mem_take (by simpa using h))
    | exact List.mem_of_mem_take (List.mem_of_mem_drop (by simpa using h))
theorem Nice.cut {x : Str} (h : Nice x) (lo hi : Option Int) : Nice (cutS x lo hi) := fun c hc => h c (cut_mem hc)
theorem nice_of {x : Str} (h : (tl x).all (· < 0x110000) = true) : Nice x := fun c hc => of_decide_eq_true (List.all_eq_true.mp h c hc)

/-- a change: its begin, its end, its string -/
structure Ch where
  b : Int
  e : Int
  s : Str
def chD (c : Ch) : PyData := .tuple [.int c.b, .int c.e, .str c.s]
/-- the first change that is refused, l being the end of the one ahead -/
def firstBad (n : Int) : Int → List Ch → Option Ch
  | _, [] => none
  | l, c :: r => if n < c.e ∨ c.b < l then some c else firstBad n c.e r
def stp (t : Str) (p : List Str × Int) (c : Ch) : List Str × Int := (p.1 ++ [cutS t (some p.2) (some c.b), c.s], c.e)
def stAt (t : Str) (cs : List Ch) (i : Nat) : List Str × Int := (cs.take i).foldl (stp t) ([], 0)
theorem stAt_succ {t : Str} {cs : List Ch} {i : Nat} {c : Ch} (h : cs[i]? = some c) : stAt t cs (i + 1) = stp t (stAt t cs i) c := by
  unfold stAt
  rw [List.take_add_one, h, List.foldl_append]
  rfl
theorem drop_at {α : Type} {cs : List α} {i : Nat} {c : α} (h : cs[i]? = some c) : cs.drop i = c :: cs.drop (i + 1) := by
  obtain ⟨hi, e⟩ := List.getElem?_eq_some_iff.mp h
  rw [List.drop_eq_getElem_cons hi, e]
/-- what all make -/
def allCh (t : Str) (cs : List Ch) : Str := Txt.join "" (stAt t cs cs.length).1 ++ cutS t (some (stAt t cs cs.length).2) none
def dueD (t : Str) (cs : List Ch) : PyData := match firstBad t.length 0 cs with
  | some c => .tuple [.str "no change", chD c]
  | none => .tuple [.str "told", .str (allCh t cs)]
theorem due_bad {t : Str} {cs : List Ch} {c : Ch} (h : firstBad t.length 0 cs = some c) : dueD t cs = .tuple [.str "no change", chD c] := by
  unfold dueD
  rw [h]
theorem due_ok {t : Str} {cs : List Ch} (h : firstBad t.length 0 cs = none) : dueD t cs = .tuple [.str "told", .str (allCh t cs)] := by
  unfold dueD
  rw [h]
/-- changes that are not too large -/
structure ChOk (c : Ch) : Prop where
  b : c.b.natAbs ≤ 1000
  e : c.e.natAbs ≤ 1000
  s : c.s.length ≤ 100
  n : Nice c.s
theorem parts_ok {t : Str} (nt : Nice t) (lt : t.length ≤ 1000) {cs : List Ch} (h : ∀ c ∈ cs, ChOk c) : ∀ i, (stAt t cs i).1.length ≤ 2 * i ∧ ∀ x ∈ (stAt t cs i).1, x.length ≤ 1000 ∧ Nice x
  | 0 => ⟨Nat.le_refl _, fun x hx => by cases hx⟩
  | i + 1 => by
    obtain ⟨a, b⟩ := parts_ok nt lt h i
    cases e : cs[i]? with
    | none =>
      have : stAt t cs (i + 1) = stAt t cs i := by
        unfold stAt
        rw [List.take_add_one, e]
        simp
      rw [this]
      exact ⟨by omega, b⟩
    | some c =>
      have k := h c (List.mem_of_getElem? e)
      rw [stAt_succ e]
      refine ⟨?_, fun x hx => ?_⟩
      · show ((stAt t cs i).1 ++ [_, _]).length ≤ _
        rw [List.length_append]
        simp only [List.length_cons, List.length_nil]
        omega
      · rcases List.mem_append.mp (show x ∈ (stAt t cs i).1 ++ [cutS t (some (stAt t cs i).2) (some c.b), c.s] from hx) with hx | hx
        · exact b x hx
        · rcases List.mem_cons.mp hx with rfl | hx
          · exact ⟨Nat.le_trans (cutS_length _ _ _) lt, nt.cut _ _⟩
          · cases List.mem_singleton.mp hx
            exact ⟨Nat.le_trans k.s (by decide), k.n⟩
theorem all_len {t : Str} (nt : Nice t) (lt : t.length ≤ 1000) {cs : List Ch} (h : ∀ c ∈ cs, ChOk c) (lc : cs.length ≤ 100) (i : Nat) (hi : i ≤ cs.length) :
    (Txt.join "" (stAt t cs i).1).length ≤ 200000 ∧ ((stAt t cs i).1.map (·.length)).sum ≤ 200000 := by
  obtain ⟨a, b⟩ := parts_ok nt lt h i
  have z := sum_le fun x hx => (b x hx).1
  rw [glue_len]
  omega
theorem chD_ok {c : Ch} (h : ChOk c) : tame (chD c) = true ∧ (chD c).depth = 1 ∧ wt (chD c) ≤ 2000 := by
  obtain ⟨hb, he, hs, hn⟩ := h
  refine ⟨?_, rfl, ?_⟩
  · show (decide (c.b.natAbs < 10 ^ 30) && (decide (c.e.natAbs < 10 ^ 30) && (tame (.str c.s) && true))) = true
    rw [hn.tame, decide_eq_true (Nat.lt_of_le_of_lt hb (by decide +kernel)), decide_eq_true (Nat.lt_of_le_of_lt he (by decide +kernel))] <;> rfl
  · show 32 + 2 + (32 + 2 + (10 * c.s.length + 2 + 2 + 0)) + 4 ≤ 2000
    omega
theorem firstBad_mem {n : Int} : ∀ {cs : List Ch} {l : Int} {c : Ch}, firstBad n l cs = some c → c ∈ cs
  | [], _, _, h => by cases h
  | x :: r, l, c, h => by
    unfold firstBad at h
    split at h
    · cases h
      exact List.mem_cons_self ..
    · exact List.mem_cons_of_mem _ (firstBad_mem h)
theorem due_okd {t : Str} (nt : Nice t) (lt : t.length ≤ 1000) {cs : List Ch} (h : ∀ c ∈ cs, ChOk c) (lc : cs.length ≤ 100) : OkD (dueD t cs) := by
  cases e : firstBad t.length 0 cs with
  | some c =>
    rw [due_bad e]
    obtain ⟨a1, a2, a3⟩ := chD_ok (h c (firstBad_mem e))
    refine ⟨?_, ?_, ?_⟩
    · show (tame (.str "no change") && (tame (chD c) && true)) = true
      rw [a1, show tame (.str "no change") = true by decide +kernel] <;> rfl
    · show max 0 (max (chD c).depth 0) + 1 ≤ 60
      rw [a2]
      decide
    · show 10 * ("no change" : Str).length + 2 + 2 + (wt (chD c) + 2 + 0) + 4 ≤ 16000000
      rw [show (("no change" : Str)).length = 9 from rfl]
      omega
  | none =>
    rw [due_ok e]
    obtain ⟨p1, p2⟩ := parts_ok nt lt h cs.length
    have q := (all_len nt lt h lc cs.length (Nat.le_refl _)).1
    have nn : Nice (allCh t cs) := (Nice.glue fun x hx => (p2 x hx).2).cat (nt.cut _ _)
    have ll : (allCh t cs).length ≤ 201000 := by
      unfold allCh
      have := cutS_length t (some (stAt t cs cs.length).2) none
      rw [Str.length_append]
      omega
    refine ⟨?_, Nat.le_trans (Nat.le_refl 1) (by decide), ?_⟩
    · show (tame (.str "told") && (tame (.str (allCh t cs)) && true)) = true
      rw [nn.tame, show tame (.str "told") = true by decide +kernel] <;> rfl
    · show 10 * ("told" : Str).length + 2 + 2 + (10 * (allCh t cs).length + 2 + 2 + 0) + 4 ≤ 16000000
      rw [show (("told" : Str)).length = 4 from rfl]
      omega
theorem chs_okd : ∀ {cs : List Ch}, (∀ c ∈ cs, ChOk c) → tameAll (cs.map chD) = true ∧ PyData.depthAll (cs.map chD) ≤ 1 ∧ wtAll (cs.map chD) ≤ cs.length * 2002
  | [], _ => ⟨rfl, Nat.zero_le _, Nat.le_refl _⟩
  | c :: r, h => by
    obtain ⟨a1, a2, a3⟩ := chD_ok (h c (List.mem_cons_self ..))
    obtain ⟨b1, b2, b3⟩ := chs_okd fun x hx => h x (List.mem_cons_of_mem _ hx)
    refine ⟨?_, ?_, ?_⟩
    · show (tame (chD c) && tameAll (r.map chD)) = true
      rw [a1, b1] <;> rfl
    · show max (chD c).depth (PyData.depthAll (r.map chD)) ≤ 1
      rw [a2]
      omega
    · show wt (chD c) + 2 + wtAll (r.map chD) ≤ (r.length + 1) * 2002
      omega
/-- what stands there for a change -/
theorem ch_at {H : Hp} {v : V} {c : Ch} (t : Tr H v (chD c)) : ∃ q, v = .ref q ∧ H q = some (.tup [.int c.b, .int c.e, .str c.s]) := by
  unfold chD at t
  cases t with
  | tup h r =>
    cases r with
    | cons h1 r =>
      cases h1
      cases r with
      | cons h2 r =>
        cases h2
        cases r with
        | cons h3 r =>
          cases h3
          cases r
          exact ⟨_, rfl, h⟩
theorem chs_at {H : Hp} {xs : List V} {cs : List Ch} (t : TrAll H xs (cs.map chD)) {i : Nat} {y : V} (h : xs[i]? = some y) : ∃ c q, cs[i]? = some c ∧ y = .ref q ∧ H q = some (.tup [.int c.b, .int c.e, .str c.s]) ∧ Tr H y (chD c) := by
  obtain ⟨d, hd, ty⟩ := t.get h
  rw [List.getElem?_map] at hd
  obtain ⟨c, hc, rfl⟩ := Option.map_eq_some_iff.mp hd
  obtain ⟨q, rfl, hq⟩ := ch_at ty
  exact ⟨c, q, hc, rfl, hq, ty⟩
end Vf
namespace Vf
open PySem PySem.Spec PyProof.Rows L2
/-- a text, and the changes of it in a list or a tuple -/
structure Chs (K : PySem.W.Frag) (H : Hp) (t : Str) (a : Addr) (xs : List V) (cs : List Ch) : Prop where
  sq : SqL K H a xs ∨ SqT K H a xs
  tr : TrAll H xs (cs.map chD)
  nt : Nice t
  lt : t.length ≤ 1000
  ok : ∀ c ∈ cs, ChOk c
  lc : cs.length ≤ 100
theorem Chs.len {K : PySem.W.Frag} {H : Hp} {t : Str} {a : Addr} {xs : List V} {cs : List Ch} (h : Chs K H t a xs cs) : xs.length = cs.length := by
  rw [h.tr.len, List.length_map]
theorem Chs.same {K : PySem.W.Frag} {H H' : Hp} {t : Str} {a : Addr} {xs : List V} {cs : List Ch} (h : Chs K H t a xs cs) (s : Same H H') : Chs K H' t a xs cs :=
  ⟨h.sq.elim (fun q => .inl (s.seq q)) (fun q => .inr (sameT s q)), h.tr.keep (Tk.of s), h.nt, h.lt, h.ok, h.lc⟩
def spAllX (K : PySem.W.Frag) (C : Addr) : Sp := fun vs H Q E => ∃ (t : Str) (a : Addr) (xs : List V) (cs : List Ch), vs = [.str t, .ref a] ∧ Chs K H t a xs cs ∧
  (∀ c v d H', firstBad t.length 0 cs = some c → Tr H' v (chD c) → Same H H' → H' d = some (.xd [(("change" : Str), v)]) → E (.ref C) (some d) H') ∧
  (firstBad t.length 0 cs = none → ∀ H', Same H H' → Q (.str (allCh t cs)) H')
/-- told, or refused -/
def spDue (K : PySem.W.Frag) : Sp := fun vs H Q _ => ∃ (t : Str) (a : Addr) (xs : List V) (cs : List Ch), vs = [.str t, .ref a] ∧ Chs K H t a xs cs ∧
  ∀ v H', Same H H' → Tr H' v (dueD t cs) → Q v H'
def spAllC (K : PySem.W.Frag) : Sp := fun vs H Q _ => ∃ (t : Str) (a : Addr) (xs : List V) (cs : List Ch), vs = [.str t, .ref a] ∧ Chs K H t a xs cs ∧ ∀ H', Same H H' → Q (.str (allCh t cs)) H'
end Vf
namespace Vf
open PySem PySem.Spec PyProof.Rows L2
/-- one of some written things -/
theorem pick_of {K : PySem.W.Frag} {g : Bg} {H1 : Hp} {c e : Int} {l : List V} {p : Addr} {Q : VK} (B : Bag H1 g c e) (hp : H1 p = none) (h0 : 0 < l.length) (h1 : l.length < 1000)
    (k : ∀ v H3, v ∈ l → Drawn g H1 H3 c e → Q v H3) : spOne K [.ref g.b, .ref p] (upd H1 p (.lst l)) Q E0 :=
  ⟨g, _, c, e, rfl, B.new hp, .inl ⟨p, l, rfl, .inl (SqL.of upd_same), B.ne_new hp, h0, h1, fun v H3 hv D => k v H3 hv (((Drawn.of B).new hp).trans D)⟩⟩
theorem strs_in {l : List Str} {v : V} (h : v ∈ l.map V.str) : ∃ z, z ∈ l ∧ v = .str z := by
  obtain ⟨z, hz, rfl⟩ := List.mem_map.mp h
  exact ⟨z, hz, rfl⟩
theorem ints_in {l : List Int} {v : V} (h : v ∈ l.map V.int) : ∃ z, z ∈ l ∧ v = .int z := by
  obtain ⟨z, hz, rfl⟩ := List.mem_map.mp h
  exact ⟨z, hz, rfl⟩
theorem TrAll.set' {H : Hp} {v : V} {d : PyData} (t : Tr H v d) : ∀ {vs : List V} {ds : List PyData} (j : Nat), TrAll H vs ds → TrAll H (vs.set j v) (ds.set j d)
  | _, _, _, .nil => .nil
  | _, _, 0, .cons _ r => .cons t r
  | _, _, j + 1, .cons h r => .cons h (TrAll.set' t j r)
theorem tr_due {H : Hp} {v : V} {t : Str} {cs : List Ch} (h : Tr H v (dueD t cs)) : ∃ p, v = .ref p := by
  cases e : firstBad t.length 0 cs with
  | some c =>
    rw [due_bad e] at h
    cases h
    exact ⟨_, rfl⟩
  | none =>
    rw [due_ok e] at h
    cases h
    exact ⟨_, rfl⟩
theorem lst_okd {cs : List Ch} (h : ∀ c ∈ cs, ChOk c) (l : cs.length ≤ 100) : OkD (.list (cs.map chD)) ∧ OkD (.tuple (cs.map chD)) := by
  obtain ⟨a, b, c⟩ := chs_okd h
  refine ⟨⟨a, ?_, ?_⟩, ⟨a, ?_, ?_⟩⟩
  · show PyData.depthAll (cs.map chD) + 1 ≤ 60
    omega
  · show wtAll (cs.map chD) + 4 ≤ 16000000
    omega
  · show PyData.depthAll (cs.map chD) + 1 ≤ 60
    omega
  · show wtAll (cs.map chD) + 4 ≤ 16000000
    omega
/-- where the item stood -/
theorem at_of_ix {α : Type} {xs : List α} {r : Int} (h0 : 0 ≤ r) (h1 : r < (xs.length : Int)) : ∃ (j : Nat) (v : α), xs[j]? = some v ∧ atI xs r = some v ∧ ixN xs.length r = some j := by
  obtain ⟨j, rfl⟩ := Int.eq_ofNat_of_zero_le h0
  have hj : j < xs.length := by omega
  refine ⟨j, xs[j], List.getElem?_eq_getElem hj, atI_nat (j := j) (List.getElem?_eq_getElem hj), ?_⟩
  first
    | exact ixN_nat hj
    | (unfold ixN; simp [hj])
theorem chs_set {cs : List Ch} {c : Ch} (j : Nat) (h : ∀ x ∈ cs, ChOk x) (hc : ChOk c) : ∀ x ∈ cs.set j c, ChOk x := fun x hx => by
  rcases List.mem_or_eq_of_mem_set hx with q | q
  · exact h x q
  · rw [q]
    exact hc
end Vf

set_option Elab.async false
set_option linter.all false
set_option maxRecDepth 100000
set_option maxHeartbeats 4000000
/-! The end of a law some of whose defs make lambdas: their code objects and the tables of what they made, in a list. -/
namespace Vf
open PySem PySem.Spec PyProof.Rows L2
open LamX (CodeO TabS Tabs ExtN TabB)
abbrev tabE : Obj := { cls := .none, data := .fields #[] }
section
variable {P : Program} {w : World} {K : PySem.W.Frag}
  {mg mb : Str → Option Value} {k : Nat} {fa a : Addr} {fd : FuncData}
  {x : Str} {sp : Sp} {s₁ : Shared} {vs : List Value} {ns : List Int} {L : List (Addr × Addr)}

theorem law_goesY {S : Prop} (hS : S → ∃ (o : Obj) (es : Array DictEntry) (n : Nat), s₁.heap.get? sysModules = some o ∧ o.cls = .type "dict" ∧ o.data = .dict es n) (KX : K.In s₁.heap)
    (hns : s₁.heap.Ns mainGlobals mg) (hb : s₁.heap.Ns builtinsNs mb)
    (hbb : ∀ y : Str, y ≠ "__name__" → mb y = bootBuiltins y)
    (hlim : s₁.heap.NoLimit) (hgen : s₁.gens = #[])
    (hT : ∀ p ∈ L, s₁.heap.get? p.2 = some tabE ∧ K.lookup p.2 = none ∧ PySem.W.CodeHd s₁.heap p.1 p.2)
    (hbm : ∃ (bm : Addr) (ob : Obj), mg "__builtins__" = some (.ref bm) ∧ bm ≠ builtinsNs ∧ s₁.heap.get? bm = some ob ∧ ob.cls = .type "module" ∧ ob.dict = some builtinsNs ∧ ob.data = .plain)
    (ha : s₁.heap.get? a =
      some { cls := .type "list", data := .seq vs.toArray })
    (hr : Room k callerA)
    (F : ∀ base : Heap, K.In base → base.Ns mainGlobals mg → (S → ∃ o, base.get? sysModules = some o ∧ o.cls = .type "dict") → (∀ p ∈ L, TabB base mg p.1 p.2) →
      FnG P w K mg base k fa fd [x] sp)
    (bind : ∀ (s : Shared) (u : Value),
      BindsTo s fd ⟨[u], []⟩ [(x, u)])
    (H : Hp) (hHT : ∀ p ∈ L, H p.2 = some (.tbl #[])) (hO : ∀ b, H b = none ∨ (∃ p ∈ L, b = p.2) ∨ ∃ o xs, H b = some (.frz o (.lst xs))) (ok : HOk P w H s₁.heap)
    (alone : ∀ b, H b ≠ none → b = a ∨ ∃ p ∈ L, b = p.2)
    (notK : H a ≠ none → K.lookup a = none)
    (hs : sp [.ref a] H (fun v _ => v = .bl true) fun _ _ _ => False) :
    codeAny (model P w) callerA (.call (.ref fa) ⟨[.ref a], []⟩)
      (LawEnd s₁) s₁ := by
  have free : ∀ {b : Addr} {o : Obj}, s₁.heap.get? b = some o → (∀ xs n, o.data ≠ .seq xs n) → o.data ≠ .fields #[] → H b = none := by
    intro b o e d1 d2
    cases q : H b with
    | none => rfl
    | some u =>
      rcases alone b (by rw [q]; exact Option.some_ne_none u) with z | ⟨p, hp, z⟩
      · rw [z, ha] at e
        cases e
        exact absurd rfl (d1 _ _)
      · rw [z, (hT p hp).1] at e
        cases e
        exact absurd rfl d2
  have ns' : ∀ {b : Addr} {m : Str → Option Value},
      s₁.heap.Ns b m → (hidT s₁.heap H).Ns b m := by
    rintro b m ⟨o, es, ep, e, d, r⟩
    refine ⟨o, es, ep, hidT_get e (free e (fun xs n z => ?_) fun z => ?_), d, r⟩
    · rw [d] at z
      cases z
    · rw [d] at z
      cases z
  have kin : K.In (hidT s₁.heap H) := by
    intro b o e
    refine hidT_get (KX b o e) ?_
    cases q : H b with
    | none => rfl
    | some u =>
      rcases alone b (by rw [q]; exact Option.some_ne_none u) with z | ⟨p, hp, z⟩
      · have z2 := notK (by rw [← z, q]; exact Option.some_ne_none u)
        rw [z, z2] at e
        cases e
      · rw [z, (hT p hp).2.1] at e
        cases e
  have lim' : (hidT s₁.heap H).NoLimit := by
    obtain ⟨mc, h1, h2⟩ := hlim
    exact ⟨mc, ns' h1, h2⟩
  have M : Mod K mg (hidT s₁.heap H) :=
    ⟨kin, ns' hns, ⟨mb, ns' hb, hbb⟩, lim'⟩
  have TB : ∀ p ∈ L, TabB (hidT s₁.heap H) mg p.1 p.2 := fun p hp => by
    obtain ⟨eT, nT, C⟩ := hT p hp
    have notMain : mainGlobals ≠ p.2 := fun z => by
      obtain ⟨o, es, ep, e, d, _⟩ := hns
      rw [z, eT] at e
      cases e
      cases d
    refine ⟨?_, ?_, notMain⟩
    · obtain ⟨o, us, fl, tf, fg, tg, inF, tx, tt, e, r1, r2, r3, rest⟩ := C
      refine ⟨o, us, fl, tf, fg, tg, inF, tx, tt, hidT_get e (free e (fun xs n z => ?_) fun z => ?_), r1, r2, r3, rest⟩
      · rw [r2] at z
        cases z
      · rw [r2] at z
        cases z
        simp at r3
    · obtain ⟨bm, ob, m1, m2, m3, m4, m5, m6⟩ := hbm
      refine ⟨bm, ob, m1, m2, fun z => ?_, fun z => ?_, hidT_get m3 (free m3 (fun xs n z => ?_) fun z => ?_), m4, m5, m6⟩
      · obtain ⟨o, es, ep, e, d, _⟩ := hns
        rw [z, e] at m3
        cases m3
        rw [m6] at d
        cases d
      · rw [z, eT] at m3
        cases m3
        cases m6
      · rw [m6] at z
        cases z
      · rw [m6] at z
        cases z
  have sb : S → ∃ o, (hidT s₁.heap H).get? sysModules = some o ∧ o.cls = .type "dict" := fun h => by
    obtain ⟨o, es, n, e, c, d⟩ := hS h
    refine ⟨o, hidT_get e (free e (fun xs n z => ?_) fun z => ?_), c⟩
    · rw [d] at z
      cases z
    · rw [d] at z
      cases z
  have none_in : ∀ b : Addr, b ∉ ([] : List Addr) := fun b => by simp
  have env : Env0 P w K mg (hidT s₁.heap H) callerA [] s₁ H :=
    ⟨rfl, M, fun b o e => of_hidT e, Nat.le_of_eq (hidT_size _ _),
      trivial, fun b z => absurd z (none_in b), ok, .of_eq hgen⟩
  refine codeAny_mono ((F _ kin (ns' hns) sb TB).go callerA [] s₁ H
    ⟨[.ref a], []⟩ [.ref a] [.ref a] _ _ hr rfl env
    (bind s₁ (.ref a)) (.cons rfl .nil) hs) ?_
  intro r s' h
  cases r with
  | error e => exact (h : False).elim
  | ok fl =>
    cases fl with
    | next => exact (h : False).elim
    | brk => exact (h : False).elim
    | cont => exact (h : False).elim
    | ret u =>
      obtain ⟨v, H', os, bare, un, ok', rv, q⟩ := h
      obtain rfl : v = .bl true := q
      obtain rfl : u = Value.bool true := rv
      have same : ∀ b o, (∀ p ∈ L, b ≠ p.2) → s₁.heap.get? b = some o → s'.heap.get? b = some o := by
        intro b o nb e
        cases q : H b with
        | none => exact un.keep b o e q (none_in b) (none_in b)
        | some u =>
          rcases hO b with z | ⟨p, hp, z⟩ | ⟨ob, xs, z⟩
          · rw [q] at z
            cases z
          · exact absurd z (nb p hp)
          · obtain ⟨e1, _⟩ := ok b _ z
            obtain ⟨e2, _⟩ := ok' b _ (un.frzs b ob _ z)
            rw [e] at e1
            cases e1
            exact e2
      have grown : ∀ p ∈ L, ∃ more, s'.heap.get? p.2 = some { cls := .none, data := .fields (#[] ++ more) } := fun p hp => by
        obtain ⟨more, z⟩ := un.tbls p.2 #[] (hHT p hp)
        exact ⟨more, ok' p.2 _ z⟩
      refine ⟨rfl, ⟨fun b o e => ?_, fun b o e => ?_⟩, os, bare⟩
      · by_cases nb : ∀ p ∈ L, b ≠ p.2
        · exact .inl (same b o nb e)
        · obtain ⟨p, hz⟩ := Classical.not_forall.mp nb
          obtain ⟨hp, e2⟩ := Classical.not_imp.mp hz
          obtain rfl := Classical.not_not.mp e2
          obtain ⟨more, g⟩ := grown p hp
          rw [(hT p hp).1] at e
          cases e
          exact .inr (.inl ⟨((hT p hp).2.2.tab (hT p hp).1).isCodeTable, rfl, #[], more, rfl, g⟩)
      · by_cases nb : ∀ p ∈ L, b ≠ p.2
        · exact ⟨o, same b o nb e⟩
        · obtain ⟨p, hz⟩ := Classical.not_forall.mp nb
          obtain ⟨hp, e2⟩ := Classical.not_imp.mp hz
          obtain rfl := Classical.not_not.mp e2
          obtain ⟨more, g⟩ := grown p hp
          exact ⟨_, g⟩

theorem law_goesY2 {S : Prop} (hS : S → ∃ (o : Obj) (es : Array DictEntry) (n : Nat), s₁.heap.get? sysModules = some o ∧ o.cls = .type "dict" ∧ o.data = .dict es n) (KX : K.In s₁.heap)
    (hns : s₁.heap.Ns mainGlobals mg) (hb : s₁.heap.Ns builtinsNs mb)
    (hbb : ∀ y : Str, y ≠ "__name__" → mb y = bootBuiltins y)
    (hlim : s₁.heap.NoLimit) (hgen : s₁.gens = #[])
    (hT : ∀ p ∈ L, s₁.heap.get? p.2 = some tabE ∧ K.lookup p.2 = none ∧ PySem.W.CodeHd s₁.heap p.1 p.2)
    (hbm : ∃ (bm : Addr) (ob : Obj), mg "__builtins__" = some (.ref bm) ∧ bm ≠ builtinsNs ∧ s₁.heap.get? bm = some ob ∧ ob.cls = .type "module" ∧ ob.dict = some builtinsNs ∧ ob.data = .plain)
    (ha : s₁.heap.get? a =
      some { cls := .type "list", data := .seq vs.toArray })
    (hi : IntsAre vs ns) (hl : ns.length ≤ sizeLine)
    (hr : Room k callerA)
    (F : ∀ base : Heap, K.In base → base.Ns mainGlobals mg → (S → ∃ o, base.get? sysModules = some o ∧ o.cls = .type "dict") → (∀ p ∈ L, TabB base mg p.1 p.2) →
      FnG P w K mg base k fa fd [x] sp)
    (bind : ∀ (s : Shared) (u : Value),
      BindsTo s fd ⟨[u], []⟩ [(x, u)])
    (hs : ∀ H : Hp, (∀ p ∈ L, H p.2 = some (.tbl #[])) → SqL K H a (ns.map V.int) →
      sp [.ref a] H (fun v _ => v = .bl true) fun _ _ _ => False) :
    codeAny (model P w) callerA (.call (.ref fa) ⟨[.ref a], []⟩)
      (LawEnd s₁) s₁ := by
  have rv := vals_ints hi
  have aT : a ∉ L.map (·.2) := fun z => by
    obtain ⟨p, hp, e⟩ := List.mem_map.mp z
    have e2 := (hT p hp).1
    rw [e, ha] at e2
    cases e2
  have into : ∀ {p : Addr × Addr}, p ∈ L → p.2 ∈ L.map (·.2) := fun hp => List.mem_map.mpr ⟨_, hp, rfl⟩
  have out : ∀ {b : Addr}, b ∈ L.map (·.2) → ∃ p ∈ L, b = p.2 := fun h => by
    obtain ⟨p, hp, e⟩ := List.mem_map.mp h
    exact ⟨p, hp, e.symm⟩
  cases hk : K.lookup a with
  | some o =>
    have e := KX a o hk
    rw [ha] at e
    cases e
    refine law_goesY hS KX hns hb hbb hlim hgen hT hbm ha hr F bind
      (fun b => if b ∈ L.map (·.2) then some (.tbl #[]) else none) (fun p hp => if_pos (into hp)) (fun b => ?_) (fun b u z => ?_)
      (fun b z => ?_) (fun z => absurd (if_neg aT) z) (hs _ (fun p hp => if_pos (into hp)) ?_)
    · by_cases q : b ∈ L.map (·.2)
      · exact .inr (.inl (out q))
      · exact .inl (if_neg q)
    · by_cases q : b ∈ L.map (·.2)
      · have z' := (if_pos q).symm.trans z
        cases z'
        obtain ⟨p, hp, rfl⟩ := out q
        exact (hT p hp).1
      · have z' := (if_neg q).symm.trans z
        cases z'
    · by_cases q : b ∈ L.map (·.2)
      · exact .inr (out q)
      · exact absurd (if_neg q) z
    refine .inr ⟨_, vs.toArray, _, hk, rfl, rfl, rfl, ?_, by simpa using rv⟩
    rw [List.size_toArray, hi.length]
    exact hl
  | none =>
    have e1 : ∀ p ∈ L, ∀ {u v : Option HO}, (if p.2 = a then u else if p.2 ∈ L.map (·.2) then v else none) = v := fun p hp {u v} => by
      rw [if_neg (fun z => aT (by rw [← z]; exact into hp)), if_pos (into hp)]
    refine law_goesY hS KX hns hb hbb hlim hgen hT hbm ha hr F bind
      (fun b => if b = a then some (.frz { cls := .type "list", data := .seq vs.toArray } (.lst (ns.map V.int))) else if b ∈ L.map (·.2) then some (.tbl #[]) else none) (fun p hp => e1 p hp) (fun b => ?_)
      (fun b u z => ?_) (fun b z => ?_) (fun _ => hk)
      (hs _ (fun p hp => e1 p hp) (.inl (.inr ⟨_, if_pos rfl⟩)))
    · by_cases q : b = a
      · exact .inr (.inr ⟨_, _, if_pos q⟩)
      · by_cases q2 : b ∈ L.map (·.2)
        · exact .inr (.inl (out q2))
        · exact .inl ((if_neg q).trans (if_neg q2))
    · by_cases q : b = a
      · have z' := (if_pos q).symm.trans z
        cases z'
        subst q
        exact ⟨ha, by rw [List.length_map]; exact hl, vs, _, rv, ha⟩
      · by_cases q2 : b ∈ L.map (·.2)
        · have z' := ((if_neg q).trans (if_pos q2)).symm.trans z
          cases z'
          obtain ⟨p, hp, rfl⟩ := out q2
          exact (hT p hp).1
        · have z' := ((if_neg q).trans (if_neg q2)).symm.trans z
          cases z'
    · by_cases q : b = a
      · exact .inl q
      · by_cases q2 : b ∈ L.map (·.2)
        · exact .inr (out q2)
        · exact absurd ((if_neg q).trans (if_neg q2)) z
end

/-- the goal that the head leaves -/
theorem walk_ofX {l : PySem.W.OpenLaw} {n k : Nat} {q : Program}
    {loose : List Str} {XP : (Str → Option Value) → Heap → Prop}
    {S : Prop} {YP : World → Heap → Prop} {d : DefRec}
    {K : Params → PySem.W.Frag} {sp : World → Sp} {x : Str} {Ts : List Addr}
    (hn : l.most = some n) (hn2 : n ≤ sizeLine)
    (hdf : d.params.defaults = []) (hr : Room k callerA)
    (hY : ∀ (w : World) (h : Heap), YP w h → ((K w.params).In h ∧ ∀ T ∈ Ts, h.get? T = some tabE) ∧ (S → ∃ (o : Obj) (es : Array DictEntry) (n : Nat), h.get? sysModules = some o ∧ o.cls = .type "dict" ∧ o.data = .dict es n))
    (F : ∀ (w : World) (mg : Str → Option Value) (fa : Addr) (h : Heap),
      (K w.params).In h → h.Ns mainGlobals mg →
      mg d.name = some (.ref fa) →
      ∃ (fd : FuncData) (L : List (Addr × Addr)), (∀ p ∈ L, PySem.W.codeHdIn (K w.params) p.1 p.2 = true ∧ (K w.params).lookup p.2 = none) ∧ L.map (·.2) = Ts ∧
        (∀ (s : Shared) (u : Value), BindsTo s fd ⟨[u], []⟩ [(x, u)]) ∧
        ∀ base : Heap, (K w.params).In base → base.Ns mainGlobals mg → (S → ∃ o, base.get? sysModules = some o ∧ o.cls = .type "dict") → (∀ p ∈ L, TabB base mg p.1 p.2) →
          FnG l.prog w (K w.params) mg base k fa fd [x] (sp w))
    (hsp : ∀ (w : World) (H : Hp) (a : Addr) (ns : List Int),
      ns.length ≤ n → (∀ T ∈ Ts, H T = some (.tbl #[])) → SqL (K w.params) H a (ns.map V.int) →
      sp w [.ref a] H (fun v _ => v = .bl true) fun _ _ _ => False) :
    PySem.W.WalkO q loose XP YP l.row.toRowW d []
      (fun f vs => PySem.call f vs) := by
  refine Att.attach_call hn hdf ?_
  intro w s₀ s₁ mg mb fa o pm cd doc a vs ns G Y ho hd hcd hmg hobj hints hlen hg
  obtain ⟨⟨KX, hT⟩, hS⟩ := hY w _ Y
  obtain ⟨fd, L, hC, hL, hb, hF⟩ := F w mg fa _ KX G.T.g hmg
  refine law_goesY2 hS KX G.T.g G.T.b G.T.builtins G.T.nolimit hg (L := L) (fun p hp => ⟨hT p.2 (hL ▸ List.mem_map.mpr ⟨p, hp, rfl⟩), (hC p hp).2, PySem.W.codeHd_of_K KX (hC p hp).1⟩) G.T.bmain hobj
    hints (Nat.le_trans hlen hn2) hr hF hb
    (fun H hO hS => hsp w H a ns hlen (fun T hT => ?_) hS)
  rw [← hL] at hT
  obtain ⟨p, hp, rfl⟩ := List.mem_map.mp hT
  exact hO p hp
/-- the goal that the head leaves -/
theorem walk_ofY {l : PySem.W.OpenLaw} {n k : Nat} {q : Program}
    {loose : List Str} {XP : (Str → Option Value) → Heap → Prop}
    {YP : World → Heap → Prop} {d : DefRec}
    {K : Params → PySem.W.Frag} {sp : World → Sp} {x : Str} {Ts : List Addr}
    (hn : l.most = some n) (hn2 : n ≤ sizeLine)
    (hdf : d.params.defaults = []) (hr : Room k callerA)
    (hY : ∀ (w : World) (h : Heap), YP w h → (K w.params).In h ∧ ∀ T ∈ Ts, h.get? T = some tabE)
    (F : ∀ (w : World) (mg : Str → Option Value) (fa : Addr) (h : Heap),
      (K w.params).In h → h.Ns mainGlobals mg →
      mg d.name = some (.ref fa) →
      ∃ (fd : FuncData) (L : List (Addr × Addr)), (∀ p ∈ L, PySem.W.codeHdIn (K w.params) p.1 p.2 = true ∧ (K w.params).lookup p.2 = none) ∧ L.map (·.2) = Ts ∧
        (∀ (s : Shared) (u : Value), BindsTo s fd ⟨[u], []⟩ [(x, u)]) ∧
        ∀ base : Heap, (K w.params).In base → base.Ns mainGlobals mg → (∀ p ∈ L, TabB base mg p.1 p.2) →
          FnG l.prog w (K w.params) mg base k fa fd [x] (sp w))
    (hsp : ∀ (w : World) (H : Hp) (a : Addr) (ns : List Int),
      ns.length ≤ n → (∀ T ∈ Ts, H T = some (.tbl #[])) → SqL (K w.params) H a (ns.map V.int) →
      sp w [.ref a] H (fun v _ => v = .bl true) fun _ _ _ => False) :
    PySem.W.WalkO q loose XP YP l.row.toRowW d []
      (fun f vs => PySem.call f vs) :=
  walk_ofX (S := False) hn hn2 hdf hr (fun w h y => ⟨hY w h y, fun f => f.elim⟩)
    (fun w mg fa h a b c => by
      obtain ⟨fd, L, h1, h2, h3, h4⟩ := F w mg fa h a b c
      exact ⟨fd, L, h1, h2, h3, fun base p q _ t => h4 base p q t⟩) hsp
/-- a hook that also looks at sys.modules -/
def sysHook (k : PySem.W.Hook) : PySem.W.Hook where
  α := k.α × Option (Value × Bool)
  obs := fun s => (k.obs s, (s.heap.get? sysModules).map fun o => (o.cls, match o.data with | .dict _ _ => true | _ => false))
  val := fun w => (k.val w, some (.type "dict", true))
  says := fun w h => k.says w h ∧ ∃ (o : Obj) (es : Array DictEntry) (n : Nat), h.get? sysModules = some o ∧ o.cls = .type "dict" ∧ o.data = .dict es n
  of := fun w s x => ⟨k.of w s (Prod.mk.inj x).1, by
    have y := (Prod.mk.inj x).2
    cases e : s.heap.get? sysModules with
    | none =>
      rw [e] at y
      cases y
    | some o =>
      rw [e] at y
      have y1 := (Prod.mk.inj (Option.some.inj y)).1
      have y2 := (Prod.mk.inj (Option.some.inj y)).2
      cases d : o.data with
      | dict es n => exact ⟨o, es, n, rfl, y1, d⟩
      | _ =>
        rw [d] at y2
        cases y2⟩
  keeps := fun w h h' x k2 => ⟨k.keeps w h h' x.1 k2, by
    obtain ⟨o, es, n, e, r⟩ := x.2
    exact ⟨o, es, n, k2 _ _ e, r⟩⟩
end Vf

set_option Elab.async false
set_option linter.all false
set_option maxRecDepth 100000
set_option maxHeartbeats 4000000
/-! Own words: how much two rows begin alike; the least change between two texts. -/
namespace Vf
open PySem PySem.Spec PyProof.Rows L2
open TL (tl joinL tl_join join_eq)
/-- how many begin alike -/
def lcp : List Nat → List Nat → Nat
  | a :: x, b :: y => if a = b then lcp x y + 1 else 0
  | _, _ => 0
theorem lcp_le : ∀ x y : List Nat, lcp x y ≤ x.length ∧ lcp x y ≤ y.length
  | [], _ => ⟨Nat.zero_le _, Nat.zero_le _⟩
  | _ :: _, [] => ⟨Nat.zero_le _, Nat.zero_le _⟩
  | a :: x, b :: y => by
    have ih := lcp_le x y
    unfold lcp
    split
    · simp only [List.length_cons]
      omega
    · exact ⟨Nat.zero_le _, Nat.zero_le _⟩
/-- one turn of a count: there are i that are alike; the next is too, or not -/
theorem lcp_more {x y : List Nat} {i : Nat} (h : lcp x y = i + lcp (x.drop i) (y.drop i)) {a : Nat} (ex : x[i]? = some a) (ey : y[i]? = some a) : lcp x y = (i + 1) + lcp (x.drop (i + 1)) (y.drop (i + 1)) := by
  rw [drop_at ex, drop_at ey] at h
  have : lcp (a :: x.drop (i + 1)) (a :: y.drop (i + 1)) = lcp (x.drop (i + 1)) (y.drop (i + 1)) + 1 := if_pos rfl
  omega
theorem lcp_end {x y : List Nat} {i : Nat} (h : lcp x y = i + lcp (x.drop i) (y.drop i)) {a b : Nat} (ex : x[i]? = some a) (ey : y[i]? = some b) (ne : a ≠ b) : lcp x y = i := by
  rw [drop_at ex, drop_at ey] at h
  have : lcp (a :: x.drop (i + 1)) (b :: y.drop (i + 1)) = 0 := if_neg ne
  omega
theorem lcp_end' {x y : List Nat} {i : Nat} (h : lcp x y = i + lcp (x.drop i) (y.drop i)) (hi : ¬ (i < x.length ∧ i < y.length)) : lcp x y = i := by
  have a := (lcp_le (x.drop i) (y.drop i)).1
  have b := (lcp_le (x.drop i) (y.drop i)).2
  rw [List.length_drop] at a b
  omega
theorem lcp_take : ∀ (x y : List Nat) (i : Nat), i ≤ lcp x y → x.take i = y.take i
  | _, _, 0, _ => by simp
  | [], _, i + 1, h => absurd h (by simp [lcp])
  | _ :: _, [], i + 1, h => absurd h (by simp [lcp])
  | a :: x, b :: y, i + 1, h => by
    unfold lcp at h
    split at h
    · rename_i e
      rw [List.take_succ_cons, List.take_succ_cons, e, lcp_take x y i (by omega)]
    · omega
theorem take_lcp : ∀ (x y : List Nat) (i : Nat), i ≤ x.length → i ≤ y.length → x.take i = y.take i → i ≤ lcp x y
  | _, _, 0, _, _, _ => Nat.zero_le _
  | [], _, i + 1, h, _, _ => by simp at h
  | _ :: _, [], i + 1, _, h, _ => by simp at h
  | a :: x, b :: y, i + 1, h1, h2, h => by
    rw [List.take_succ_cons, List.take_succ_cons] at h
    obtain ⟨e, h⟩ := List.cons.inj h
    have := take_lcp x y i (by simpa using h1) (by simpa using h2) h
    unfold lcp
    rw [if_pos e]
    omega
/-- the begin of the least change, and how much is alike behind it -/
def begB (x y : List Nat) : Nat := lcp x y
def sameB (x y : List Nat) : Nat := lcp (x.drop (begB x y)).reverse (y.drop (begB x y)).reverse
theorem begB_le (x y : List Nat) : begB x y ≤ x.length ∧ begB x y ≤ y.length := lcp_le x y
theorem sameB_le (x y : List Nat) : begB x y + sameB x y ≤ x.length ∧ begB x y + sameB x y ≤ y.length := by
  have a := lcp_le (x.drop (begB x y)).reverse (y.drop (begB x y)).reverse
  have b := begB_le x y
  rw [List.length_reverse, List.length_reverse, List.length_drop, List.length_drop] at a
  unfold sameB
  omega
/-- b, e may be begin and end of a change that leads from x to y -/
def Leads (x y : List Nat) (b e : Nat) : Prop := b ≤ e ∧ e ≤ x.length ∧ b + (x.length - e) ≤ y.length ∧ x.take b = y.take b ∧ x.drop e = y.drop (y.length - (x.length - e))
theorem leads_beg {x y : List Nat} {b e : Nat} (h : Leads x y b e) : b ≤ begB x y := by
  obtain ⟨h1, h2, h3, h4, _⟩ := h
  exact take_lcp x y b (by omega) (by omega) h4
theorem rev_take_drop {x : List Nat} {b k : Nat} (h : b + k ≤ x.length) : (x.drop b).reverse.take k = (x.drop (x.length - k)).reverse := by
  rw [List.take_reverse, List.length_drop, List.drop_drop]
  congr 2
  omega
theorem leads_end {x y : List Nat} {e : Nat} (h : Leads x y (begB x y) e) : x.length - sameB x y ≤ e := by
  obtain ⟨h1, h2, h3, _, h5⟩ := h
  have := take_lcp (x.drop (begB x y)).reverse (y.drop (begB x y)).reverse (x.length - e) (by rw [List.length_reverse, List.length_drop]; omega) (by rw [List.length_reverse, List.length_drop]; omega) (by
    rw [rev_take_drop (by omega), rev_take_drop (by omega)]
    rw [show x.length - (x.length - e) = e by omega, h5])
  have : x.length - e ≤ sameB x y := this
  omega
theorem leads_all (x y : List Nat) : Leads x y (begB x y) (x.length - sameB x y) := by
  have a := begB_le x y
  have b := sameB_le x y
  refine ⟨by omega, by omega, by omega, lcp_take x y _ (Nat.le_refl _), ?_⟩
  have h := lcp_take (x.drop (begB x y)).reverse (y.drop (begB x y)).reverse (sameB x y) (Nat.le_refl _)
  rw [rev_take_drop (by omega), rev_take_drop (by omega)] at h
  rw [show x.length - (x.length - sameB x y) = sameB x y by omega]
  exact List.reverse_inj.mp h
theorem leads_whole (x y : List Nat) : Leads x y (begB x y) x.length := by
  have a := begB_le x y
  refine ⟨a.1, Nat.le_refl _, by omega, lcp_take x y _ (Nat.le_refl _), ?_⟩
  rw [Nat.sub_self, Nat.sub_zero, List.drop_length, List.drop_length]
end Vf

set_option Elab.async false
set_option linter.all false
set_option maxRecDepth 100000
set_option maxHeartbeats 4000000
/-! Own words: repr of a text too; a def whose lambdas' code is known; what tables and drawn bags keep. -/
namespace Vf
open PySem PySem.Spec PyProof.Rows L2
open LamX (CodeO TabS Tabs ExtN TabB)
/-- an object, or a text -/
def ShowV (v : V) : Prop := (∃ a, v = .ref a) ∨ ∃ x, v = .str x
theorem call_repr2 {X : Cx} (gd : X.A.guards = some []) (hu : X.A.units + 64 < cLine) :
    CallR X (.builtin "repr") (fun xs H Q => ∃ v d, xs = [v] ∧ ShowV v ∧ Dp X.K H v d ∧ OkD d ∧ Q (.str d.shown) H) := by
  intro pins s σ H xs us Q I r h
  obtain ⟨v, d, rfl, sv, hd, ok, q⟩ := h
  rcases sv with ⟨a, rfl⟩ | ⟨x, rfl⟩
  · exact call_repr gd hu pins s σ H [.ref a] us Q I r ⟨a, d, rfl, hd, ok, q⟩
  · cases hd
    cases r with
    | cons rv rn =>
      cases rn
      obtain ⟨t, rfl⟩ := rv
      exact PySem.P.repr_of_str ⟨.str _, H, I.tok _, ⟨_, rfl⟩, q⟩ ok.show
/-- two things alike, objects or texts -/
def spAlike2 (K : PySem.W.Frag) : Sp := fun vs H Q _ => ∃ (u v : V) (d : PyData), vs = [u, v] ∧ ShowV u ∧ ShowV v ∧ Dp K H u d ∧ Dp K H v d ∧ OkD d ∧ ∀ H', Same H H' → Q (.bl true) H'
/-- a def of the text whose code object stands at c -/
structure DefK (K : PySem.W.Frag) (mg : Str → Option Value) (x : Str) (st : Stmt) (ps : List Str) (c : Addr) : Prop where
  ex : ∃ (f : Addr) (oc : Value) (od an : Option Addr) (sl : Array (Option Value)) (kV dc pm ct : Value),
    K.lookup f = some ⟨oc, od, .func (PySem.W.fnOf x x (defArgs st) (defBody st) (defScope st) .none kV dc pm an (.ref c) ct), sl⟩ ∧
    PySem.W.codeIn K (.ref c) x = true ∧ PySem.W.keepIn K (.ref f) = true ∧ mg x = some (.ref f) ∧
    Binds K (PySem.W.fnOf x x (defArgs st) (defBody st) (defScope st) .none kV dc pm an (.ref c) ct) ps []
section
variable {P : Program} {w : World} {K : PySem.W.Frag} {mg : Str → Option Value} {base : Heap}
theorem fnG_ofK {x : Str} {st : Stmt} {f c : Addr} {oc : Value} {od an : Option Addr} {sl : Array (Option Value)} {kV dc pm ct : Value} {N ps : List Str} {k : Nat} {sp : Sp}
    (lk : K.lookup f = some ⟨oc, od, .func (PySem.W.fnOf x x (defArgs st) (defBody st) (defScope st) .none kV dc pm an (.ref c) ct), sl⟩) (hcd : PySem.W.codeIn K (.ref c) x = true) (S : FnScope N ps (defScope st))
    (many : ∀ vs H Q E, sp vs H Q E → vs.length = ps.length)
    (body : ∀ (A : Around) (outer : List Env) (s : Shared) (H : Hp) (vs : List V) (Q : VK) (E : XK),
      Room k (A.deeper (envOfC x (defScope st) s.heap.objs.size f (.ref c))) → A.guards = some [] → sp vs H Q E →
      ∃ t, PSs (cxOf CX0 P w K mg base N x (defScope st) f (.ref c) A outer s H E).nox (defBody st) t ∧ t { nx := fun _ H' => Q .non H', rt := Q } (start N vs) H) :
    FnG P w K mg base (k + 1) f (PySem.W.fnOf x x (defArgs st) (defBody st) (defScope st) .none kV dc pm an (.ref c) ct) ps sp := by
  refine ⟨many, fun A outer s H args us vs Q E hr hg e0 hb r hsp => ?_⟩
  have hlen := many _ _ _ _ hsp
  have KX : K.In s.heap := e0.mod.kin.keeps (fun b o e => (e0.bs b o e).1)
  have lim := e0.mod.nolimit.keeps (fun b o e => (e0.bs b o e).1)
  have kinds : ∀ y ∈ ps.zip us, (defScope st).names.lookup y.1 = some .local ∨
      ((defScope st).names.lookup y.1 = some .cell ∧ ((cellsFrom (s.heap.objs.size + 1) (defScope st).names []).lookup y.1).isSome = true) := by
    rintro ⟨n, v⟩ hy
    cases S.par n (List.of_mem_zip hy).1 with
    | inl q => exact .inl q
    | inr q => exact .inr ⟨q, PySem.W.cellsFrom_some _ _ _ (.inl q)⟩
  refine codeAny_call_function hr.depth (KX _ _ lk) rfl S.co S.gen rfl (PySem.W.codeRec_of KX hcd) (hb _ _ _ _ ?_)
  refine wpAny_newFunctionEnv_cells S.kind kinds (fun env he s1 x => ?_)
  subst he
  refine ⟨lim.keeps x.toInCall.keep, codeAny_func ?_⟩
  obtain ⟨t, ht, hq⟩ := body A outer s H vs Q E (hr.deeper _) hg hsp
  have I := inv_start (CX := CX0) (E := E) S hr.hd e0 hlen r x
  refine wpAny_mono (ht.nox.run [] s1 (start N vs) H _ I hq) (fun fl s' hs => ?_) (fun _ _ hs => hs)
  cases fl with
  | brk => exact (hs.choose_spec.choose_spec.2 : False).elim
  | cont => exact (hs.choose_spec.choose_spec.2 : False).elim
  | next =>
    obtain ⟨_, H', J, q⟩ := hs
    exact ⟨V.non, H', J.os, J.bare, J.base, J.hok, rfl, q⟩
  | ret u =>
    obtain ⟨v, _, H', J, rv, q⟩ := hs
    exact ⟨v, H', J.os, J.bare, J.base, J.hok, rv, q⟩
theorem calGOfK {x : Str} {st : Stmt} {N ps : List Str} {k : Nat} {sp : Sp} {c : Addr}
    (D : DefK K mg x st ps c) (S : FnScope N ps (defScope st)) (many : ∀ vs H Q E, sp vs H Q E → vs.length = ps.length)
    (body : ∀ (f : Addr) (A : Around) (outer : List Env) (s : Shared) (H : Hp) (vs : List V) (Q : VK) (E : XK),
      Room k (A.deeper (envOfC x (defScope st) s.heap.objs.size f (.ref c))) → A.guards = some [] → sp vs H Q E →
      ∃ t, PSs (cxOf CX0 P w K mg base N x (defScope st) f (.ref c) A outer s H E).nox (defBody st) t ∧ t { nx := fun _ H' => Q .non H', rt := Q } (start N vs) H) :
    CalG P w K mg base (k + 1) x sp := by
  obtain ⟨f, oc, od, an, sl, kV, dc, pm, ct, lk, hcd, kp, hm, hb⟩ := D.ex
  exact ⟨f, _, ps, fnG_ofK lk hcd S many (fun A o s H vs Q E hr h => body f A o s H vs Q E hr h), hm, kp, hb⟩
end
/-! ### what is kept where lambdas are made -/
section
variable {g : Bg} {H H1 H2 : Hp} {c e : Int} {T : List (Addr × Str)} {p : Addr} {o : HO}
theorem ExtN.tk' (x : ExtN H H1) : Tk H H1 := fun a xs h => x a _ h (fun ps z => by cases z)
theorem ExtN.lst (x : ExtN H H1) {a : Addr} {xs : List V} (h : H a = some (.lst xs)) : H1 a = some (.lst xs) := x a _ h (fun ps z => by cases z)
theorem Bag.ext (B : Bag H g c e) (x : ExtN H H1) : Bag H1 g c e := by
  obtain ⟨z, m, i, ns, h, h2, r⟩ := B.ex
  exact ⟨⟨z, m, i, ns, ExtN.lst x h, ExtN.lst x h2, r⟩, B.ne⟩
theorem Tabs.drawn (t : Tabs T H) (B : Bag H g c e) (D : Drawn g H H1 c e) : Tabs T H1 := fun q hq => by
  obtain ⟨ps, h, tri, k⟩ := t q hq
  obtain ⟨ob, hb⟩ := B.ob
  have keep : ∀ {a : Addr} {u : HO}, H a = some u → (∀ ys, u ≠ .lst ys) → H1 a = some u := fun {a u} ha n => D.fr a u (fun z => by
    rw [z, hb] at ha
    exact n _ (Option.some.inj ha).symm) ha
  refine ⟨ps, keep h (fun ys z => by cases z), tri, fun pos cv hc => ?_⟩
  obtain ⟨c1, e1, e2⟩ := k pos cv hc
  exact ⟨c1, e1, keep e2 (fun ys z => by unfold CodeO at z; cases z)⟩
theorem Tabs.same' (t : Tabs T H) (s : Same H H1) : Tabs T H1 := t.ext s
theorem Tabs.new' (t : Tabs T H) (n : H p = none) : Tabs T (upd H p o) := t.ext (same_new n)
end
end Vf

set_option Elab.async false
set_option linter.all false
set_option maxRecDepth 100000
set_option maxHeartbeats 4000000
/-! Own words: a text's signs in the other order; slices of texts as lists. -/
namespace Vf
open PySem PySem.Spec PyProof.Rows L2
open TL (tl)
def revS (x : Str) : Str := ⟨(tl x).reverse.toArray⟩
theorem tl_revS (x : Str) : tl (revS x) = (tl x).reverse := by
  show ((tl x).reverse.toArray).toList = _
  rw [List.toList_toArray]
theorem rev_is (x : Str) (u : Tok) : Txt.sliceBy x none none (-1, u) = revS x := by
  refine tl_inj ?_
  rw [tl_revS]
  refine (step_rev_list x u).trans ?_
  apply List.ext_getElem
  · simp [Str.length]
  · intro i h1 h2
    simp only [List.length_map, List.length_range] at h1
    have hs : x.length = x.cps.size := rfl
    have h3 : x.cps.size - 1 - i < x.cps.size := by
      rw [hs] at h1
      omega
    simp [List.getElem_reverse, Array.getD, hs, h3]
theorem pe_revS {X : Cx} {e : Expr} {te : TE} {k : Nat} {p1 p2 p3 pos : Pos} (he : PE X e te) :
    PE X (.Subscript e (.Slice none none (some (.UnaryOp .USub (.Constant (.int 1) k p1) p2)) p3) pos) (fun τ G Q => te τ G fun v G1 => ∃ z, v = .str z ∧ z.length ≤ sizeLine ∧ Q (.str (revS z)) G1) := by
  refine ⟨fun pins s τ G Q I h => Subscript_ (thn (he.run pins s τ G _ I h) fun u t ⟨v, G1, J, rv, z, ev, lz, q⟩ => ?_)⟩
  subst ev
  obtain ⟨tk, rfl⟩ := rv
  have step : PO X (some (.UnaryOp .USub (.Constant (.int 1) k p1) p2)) (tPart (tUn (rU fun i => .int (-i)) (tC (.int 1)))) := po_some (pe_un un_neg pe_int)
  refine wpAny_Slice (thn (po_none.run pins t τ G1 (fun o F => o = none ∧ F = G1) J ⟨rfl, rfl⟩) fun a t1 ⟨oa, F1, J1, pa, ea, fa⟩ => ?_)
  subst ea fa
  refine thn (po_none.run pins t1 τ F1 (fun o F => o = none ∧ F = F1) J1 ⟨rfl, rfl⟩) fun b t2 ⟨ob, F2, J2, pb, eb, fb⟩ => ?_
  subst eb fb
  refine thn (step.run pins t2 τ F2 (fun o F => o = some (-1) ∧ F = F2) J2 ⟨1, rfl, -1, rfl, rfl, rfl⟩) fun c t3 ⟨oc, F3, J3, pc, ec, fc⟩ => ?_
  subst ec fc
  obtain ⟨l, rfl, el⟩ := IsPart.raw pa
  obtain ⟨m, rfl, em⟩ := IsPart.raw pb
  obtain ⟨n, rfl, en⟩ := IsPart.raw pc
  obtain rfl : l = none := by cases l <;> simp at el <;> rfl
  obtain rfl : m = none := by cases m <;> simp at em <;> rfl
  obtain ⟨n1, rfl⟩ : ∃ n1, n = some (-1, n1) := by
    cases n with
    | none => simp at en
    | some q =>
      obtain ⟨i, w⟩ := q
      simp at en
      subst en
      exact ⟨w, rfl⟩
  have c0 : ¬ ((((some ((-1 : Int), n1)).map (·.1)).getD 1 == 1 && (slicePicked z none none (some (-1, n1))).length == z.length) = true) := by
    rw [show ((((some ((-1 : Int), n1)).map (·.1)).getD 1 == 1)) = false from rfl]
    simp
  have er := rev_is z n1
  unfold Txt.sliceBy at er
  rw [if_neg c0] at er
  have J4 : Inv X pins τ F3 { t3 with heap := t3.heap.push { cls := .type "slice", data := .fields #[partValue none, partValue none, partValue (some (-1, n1))] } } := J3.kept (t' := t3.toks) fun b ob w => Heap.get?_push_of_some _ w
  refine tail_any (ops := [.str z tk, .ref t3.heap.objs.size]) (typeIs_str _ _ _) PySem.F.slot_str_getitem.lookup ?_ (by with_unfolding_all rfl)
  refine wpAny_getItem_str_slice (l := none) (u := none) (st := some (-1, n1)) ⟨_, Heap.get?_push_size _ rfl, rfl, rfl⟩ rfl ?_
  unfold sliceMade
  rw [if_neg c0, er]
  have lr : (revS z).length ≤ sizeLine := by
    rw [str_len, tl_revS, List.length_reverse, ← str_len]
    exact lz
  exact ⟨lr, .str _, F3, J4.tok _, ⟨_, rfl⟩, q⟩
/-! ### slices as lists -/
theorem tl_cutS (z : Str) (lo hi : Option Int) : tl (cutS z lo hi) = ((tl z).drop (HT.sIx z.length 0 lo)).take (HT.sIx z.length z.length hi - HT.sIx z.length 0 lo) := by
  show (List.toArray _).toList = _
  rw [List.toList_toArray]
theorem sIx_nat (n d : Nat) {i : Nat} : HT.sIx n d (some (i : Int)) = min i n := by
  show (if (i : Int) < 0 then ((i : Int) + n).toNat else min (i : Int).toNat n) = _
  rw [if_neg (by omega)]
  rfl
theorem tl_from (z : Str) (i : Nat) : tl (cutS z (some (i : Int)) none) = (tl z).drop i := by
  rw [tl_cutS, sIx_nat]
  show ((tl z).drop (min i z.length)).take (z.length - min i z.length) = _
  rw [str_len]
  by_cases h : i ≤ (tl z).length
  · rw [Nat.min_eq_left h]
    exact List.take_of_length_le (by rw [List.length_drop]; omega)
  · rw [Nat.min_eq_right (by omega), List.drop_of_length_le (by omega), List.drop_of_length_le (by omega)]
    simp
theorem tl_upto (z : Str) (i : Nat) : tl (cutS z none (some (i : Int))) = (tl z).take i := by
  rw [tl_cutS, sIx_nat]
  show ((tl z).drop 0).take (min i z.length - 0) = _
  rw [str_len, List.drop_zero, Nat.sub_zero]
  by_cases h : i ≤ (tl z).length
  · rw [Nat.min_eq_left h]
  · rw [Nat.min_eq_right (by omega), List.take_of_length_le (by omega), List.take_of_length_le (by omega)]
theorem tl_part (z : Str) (i j : Nat) (hj : j ≤ z.length) : tl (cutS z (some (i : Int)) (some (j : Int))) = ((tl z).take j).drop i := by
  rw [tl_cutS, sIx_nat, sIx_nat]
  rw [str_len] at hj ⊢
  rw [Nat.min_eq_left hj, List.drop_take]
  by_cases h : i ≤ (tl z).length
  · rw [Nat.min_eq_left h]
  · rw [Nat.min_eq_right (by omega), List.drop_of_length_le (by omega), List.drop_of_length_le (by omega)]
    simp
end Vf

set_option Elab.async false
set_option linter.all false
set_option maxRecDepth 100000
set_option maxHeartbeats 4000000
/-! Own words: where the words of a text end, as a function of its signs. -/
namespace Vf
open PySem PySem.Spec PyProof.Rows L2 PySem.Builtin PySem.Builtin.Str PySem.StrLaws
/-! ### the first place of a text in a text -/
def HitAt (x y : Str) (hi k : Nat) : Prop := k + y.length ≤ hi ∧ subAt x y k = true
theorem occ_full (x y : Str) (hi : Nat) : ∀ (l : List Nat) (st : Array Nat × Nat), st.fst.size = 1 → (forIn l st (occBody x y hi 1)).run.fst = st.fst
  | [], st, h => rfl
  | a :: l, st, h => by
    rw [List.forIn_cons]
    unfold occBody
    rw [if_neg (fun z => by
      have := z.1.1.1
      omega)]
    exact occ_full x y hi l _ h
theorem occ_first (x y : Str) (hi : Nat) : ∀ (l : List Nat) (free : Nat), (∀ i ∈ l, free ≤ i) →
    ((forIn l ((#[] : Array Nat), free) (occBody x y hi 1)).run.fst = #[] ∧ ∀ i ∈ l, ¬ HitAt x y hi i) ∨
    ∃ k l1 l2, l = l1 ++ k :: l2 ∧ (forIn l ((#[] : Array Nat), free) (occBody x y hi 1)).run.fst = #[k] ∧ HitAt x y hi k ∧ ∀ i ∈ l1, ¬ HitAt x y hi i
  | [], free, _ => .inl ⟨rfl, by simp⟩
  | a :: l, free, hf => by
    have ha : free ≤ a := hf a (List.mem_cons_self ..)
    rw [List.forIn_cons]
    by_cases hc : HitAt x y hi a
    · refine .inr ⟨a, [], l, rfl, ?_, hc, by simp⟩
      unfold occBody
      rw [if_pos ⟨⟨⟨by simp, ha⟩, hc.1⟩, hc.2⟩]
      exact occ_full x y hi l _ rfl
    · have e : occBody x y hi 1 a ((#[] : Array Nat), free) = pure (ForInStep.yield ((#[] : Array Nat), free)) := by
        unfold occBody
        rw [if_neg fun z => hc ⟨z.1.2, z.2⟩]
      rw [e]
      rcases occ_first x y hi l free (fun i h => hf i (List.mem_cons_of_mem _ h)) with ⟨h1, h2⟩ | ⟨k, l1, l2, h1, h2, h3, h4⟩
      · refine .inl ⟨h1, fun i hi' => ?_⟩
        rcases List.mem_cons.mp hi' with rfl | hm
        · exact hc
        · exact h2 i hm
      · refine .inr ⟨k, a :: l1, l2, by rw [h1]; rfl, h2, h3, fun i hi' => ?_⟩
        rcases List.mem_cons.mp hi' with rfl | hm
        · exact hc
        · exact h4 i hm
theorem from_nat (n i : Nat) : fromIndex n (i : Int) = i := by
  unfold fromIndex
  rw [if_neg (by omega)]
  omega
theorem find3_spec (x y : Str) (i : Nat) :
    (∃ k : Nat, Txt.find3 x y (i : Int) = (k : Int) ∧ i ≤ k ∧ HitAt x y x.length k ∧ ∀ j, i ≤ j → j < k → ¬ HitAt x y x.length j) ∨
    (Txt.find3 x y (i : Int) = -1 ∧ ∀ j, i ≤ j → ¬ HitAt x y x.length j) := by
  unfold Txt.find3
  rw [from_nat, occ_eq]
  have mem : ∀ j, j ∈ List.range' i (x.length + 1 - i) ↔ i ≤ j ∧ j ≤ x.length := fun j => by
    rw [List.mem_range'_1]
    omega
  have out : ∀ j, HitAt x y x.length j → j ≤ x.length := fun j h => Nat.le_trans (Nat.le_add_right _ _) h.1
  rcases occ_first x y x.length (List.range' i (x.length + 1 - i)) i (fun j h => ((mem j).mp h).1) with ⟨h1, h2⟩ | ⟨k, l1, l2, h1, h2, h3, h4⟩
  · rw [h1]
    exact .inr ⟨rfl, fun j hj h => h2 j ((mem j).mpr ⟨hj, out j h⟩) h⟩
  · rw [h2]
    have hk : k ∈ List.range' i (x.length + 1 - i) := by
      rw [h1]
      simp
    refine .inl ⟨k, rfl, ((mem k).mp hk).1, h3, fun j hj hjk h => ?_⟩
    have hm := (mem j).mpr ⟨hj, out j h⟩
    rw [h1] at hm
    rcases List.mem_append.mp hm with q | q
    · exact h4 j q h
    · have ps : (l1 ++ k :: l2).Pairwise (· < ·) := by
        rw [← h1]
        exact List.pairwise_lt_range'
      rcases List.mem_cons.mp q with q | q
      · omega
      · have := (List.pairwise_cons.mp (List.pairwise_append.mp ps).2.1).1 j q
        omega

/-! ### runs -/
def digC (c : Nat) : Bool := decide (48 ≤ c) && decide (c ≤ 57)
def letC (c : Nat) : Bool := (decide (97 ≤ c) && decide (c ≤ 122)) || ((decide (65 ≤ c) && decide (c ≤ 90)) || decide (c = 95))
def wrdC (c : Nat) : Bool := letC c || digC c
def notNl (c : Nat) : Bool := !decide (c = 10)
def runE (g : Nat → Bool) (L : List Nat) (i : Nat) : Nat := i + ((L.drop i).takeWhile g).length
theorem run_step {g : Nat → Bool} {L : List Nat} {i c : Nat} (h : L[i]? = some c) (hg : g c = true) : runE g L i = runE g L (i + 1) := by
  unfold runE
  rw [drop_at h, List.takeWhile_cons, if_pos hg, List.length_cons]
  omega
theorem run_stop {g : Nat → Bool} {L : List Nat} {i c : Nat} (h : L[i]? = some c) (hg : g c = false) : runE g L i = i := by
  unfold runE
  rw [drop_at h, List.takeWhile_cons, hg]
  rfl
theorem run_end {g : Nat → Bool} {L : List Nat} {i : Nat} (h : L.length ≤ i) : runE g L i = i := by
  unfold runE
  rw [List.drop_eq_nil_iff.mpr h]
  rfl
theorem run_le {g : Nat → Bool} {L : List Nat} {i : Nat} (h : i ≤ L.length) : runE g L i ≤ L.length := by
  unfold runE
  have h1 := (List.takeWhile_sublist (l := L.drop i) g).length_le
  rw [List.length_drop] at h1
  omega
theorem run_ge (g : Nat → Bool) (L : List Nat) (i : Nat) : i ≤ runE g L i := Nat.le_add_right _ _
theorem run_gt {g : Nat → Bool} {L : List Nat} {i c : Nat} (h : L[i]? = some c) (hg : g c = true) : i < runE g L i := by
  rw [run_step h hg]
  exact run_ge g L (i + 1)
/-! ### words -/
def numE (L : List Nat) (i : Nat) : Nat :=
  if L[runE digC L i]? = some 46 then
    (if runE digC L (runE digC L i + 1) > runE digC L i + 1 then runE digC L (runE digC L i + 1) else runE digC L i)
  else runE digC L i
def escC (c : Nat) : Bool := decide (c = 34) || (decide (c = 92) || (decide (c = 110) || decide (c = 116)))
/-- behind the mark that opens a quote -/
def quoE : List Nat → Nat → Option Nat
  | [], _ => none
  | c :: r, i => if c = 34 then some (i + 1) else if c = 10 then none else if c = 92 then
      (match r with
      | [] => none
      | d :: q => if escC d then quoE q (i + 2) else none)
    else quoE r (i + 1)
def clsE (t y : Str) (i : Nat) : Option Nat := if Txt.find3 t y (i : Int) < 0 then none else some ((Txt.find3 t y (i : Int)).toNat + y.length)
def twoL : List (List Nat) := [[61, 61], [33, 61], [60, 61], [62, 61], [45, 62]]
def oneL : List Nat := [40, 41, 91, 93, 123, 125, 44, 59, 58, 46, 61, 60, 62, 43, 45, 42, 47, 94]
def wrdE (t : Str) (i : Nat) : Option Nat :=
  match t.cps.toList[i]? with
  | none => none
  | some c =>
    if letC c then some (runE wrdC t.cps.toList i)
    else if digC c then some (numE t.cps.toList i)
    else if c = 34 then quoE (t.cps.toList.drop (i + 1)) (i + 1)
    else if c = 39 then (if (t.cps.toList.drop i).take 3 = [39, 39, 39] then clsE t "'''" (i + 3) else none)
    else if c = 35 then some (runE notNl t.cps.toList i)
    else if (t.cps.toList.drop i).take 2 = [60, 42] then clsE t "*>" (i + 2)
    else if (t.cps.toList.drop i).take 2 ∈ twoL then some (i + 2)
    else if c ∈ oneL then some (i + 1) else none
theorem quo_in : ∀ (n : Nat) (r : List Nat) (i e : Nat), r.length ≤ n → quoE r i = some e → i < e ∧ e ≤ i + r.length
  | _, [], i, e, _, h => by
    unfold quoE at h
    cases h
  | 0, c :: r, i, e, hn, _ => absurd hn (by simp)
  | n + 1, c :: r, i, e, hn, h => by
    rw [List.length_cons] at hn ⊢
    unfold quoE at h
    split at h
    · cases h
      omega
    · split at h
      · cases h
      · split at h
        · cases r with
          | nil => cases h
          | cons d q =>
            have h' : (if escC d then quoE q (i + 2) else none) = some e := h
            rw [List.length_cons] at hn ⊢
            split at h'
            · have := quo_in n q (i + 2) e (by omega) h'
              omega
            · cases h'
        · have := quo_in n r (i + 1) e (by omega) h
          omega
theorem cls_in {t y : Str} {i e : Nat} (h : clsE t y i = some e) : i + y.length ≤ e ∧ e ≤ t.length := by
  unfold clsE at h
  rcases find3_spec t y i with ⟨k, h1, h2, h3, _⟩ | ⟨h1, _⟩
  · rw [h1, if_neg (by omega)] at h
    cases h
    have := h3.1
    exact ⟨by omega, by omega⟩
  · rw [h1] at h
    cases h
theorem len_at {L : List Nat} {i c : Nat} (h : L[i]? = some c) : i < L.length := (List.getElem?_eq_some_iff.mp h).1
theorem take_len {L l : List Nat} {i n : Nat} (h : (L.drop i).take n = l) (hl : l.length = n) (h0 : 0 < n) : i + n ≤ L.length := by
  have := congrArg List.length h
  rw [List.length_take, List.length_drop, hl] at this
  omega
theorem num_in {L : List Nat} {i c : Nat} (h : L[i]? = some c) (hd : digC c = true) : i < numE L i ∧ numE L i ≤ L.length := by
  have h1 := run_gt h hd
  have h2 := run_le (g := digC) (Nat.le_of_lt (len_at h))
  unfold numE
  split
  · rename_i q
    have h3 := run_le (g := digC) (i := runE digC L i + 1) (len_at q)
    split <;> omega
  · omega
theorem wrd_in {t : Str} {i e : Nat} (h : wrdE t i = some e) : i < e ∧ e ≤ t.length := by
  have hL : t.length = t.cps.toList.length := by simp [Str.length]
  rw [hL]
  unfold wrdE at h
  split at h
  · cases h
  · rename_i c hc
    have hl := len_at hc
    split at h
    · rename_i q
      cases h
      exact ⟨run_gt hc (by unfold wrdC; rw [q] <;> rfl), run_le (Nat.le_of_lt hl)⟩
    · split at h
      · rename_i q
        cases h
        exact num_in hc q
      · split at h
        · have := quo_in _ _ _ _ (Nat.le_refl _) h
          rw [List.length_drop] at this
          omega
        · split at h
          · split at h
            · have := cls_in h
              omega
            · cases h
          · split at h
            · rename_i q
              cases h
              refine ⟨run_gt hc ?_, run_le (Nat.le_of_lt hl)⟩
              rw [q] <;> rfl
            · split at h
              · have := cls_in h
                omega
              · split at h
                · rename_i q
                  cases h
                  have q2 : i + 2 ≤ t.cps.toList.length := by
                    have all : ∀ l ∈ twoL, l.length = 2 := by decide
                    exact take_len rfl (all _ q) (by decide)
                  omega
                · split at h
                  · cases h
                    omega
                  · cases h
end Vf

set_option Elab.async false
set_option linter.all false
set_option maxRecDepth 100000
set_option maxHeartbeats 4000000
/-! Own words: a text so many times. -/
namespace Vf
open PySem PySem.Spec PyProof.Rows L2
open TL (tl)
theorem fold_tl (x : Array Nat) : ∀ (n : Nat) (a : Array Nat), ((List.replicate n x).foldl (· ++ ·) a).toList = a.toList ++ (List.replicate n x.toList).flatten
  | 0, a => by simp
  | n + 1, a => by
    rw [List.replicate_succ, List.foldl_cons, fold_tl x n, List.replicate_succ, List.flatten_cons, Array.toList_append, List.append_assoc]
theorem op_rep_str {X : Cx} : OpR X (binaryOp .Mult) (fun x y H Q => ∃ z n, x = .str z ∧ y = .int n ∧ 0 ≤ n ∧ n ≤ 100000 ∧ z.length ≤ 100 ∧ ∀ r : Str, tl r = (List.replicate n.toNat (tl z)).flatten → Q (.str r) H) := by
  intro pins s σ H x y v u Q I rx ry h
  obtain ⟨z, n, rfl, rfl, h0, h1, hz, q⟩ := h
  obtain ⟨t, rfl⟩ := rx
  obtain ⟨t', rfl⟩ := ry
  have sz : z.length * n.toNat ≤ sizeLine := Nat.le_trans (Nat.mul_le_mul hz (show n.toNat ≤ 100000 by omega)) (by decide)
  have fin : ∀ (r : Str) (tk : Nat), tl r = (List.replicate n.toNat (tl z)).flatten → EP X pins σ Q (.str r s.toks) { s with toks := s.toks + 1 } := fun r _ e => ⟨.str r, H, I.tok _, ⟨_, rfl⟩, q r e⟩
  refine PySem.P.mul_str ?_ ?_ ?_ ?_
  · rw [decide_eq_false (by omega), decide_eq_false (by omega)]
    rfl
  · intro a _ c
    have : (100 : Int) ≤ (2 ^ 63 - 1) / n := Int.le_ediv_of_mul_le (by omega) (by omega)
    omega
  · intro _ _
    exact decide_eq_false (Nat.not_lt.mpr sz)
  · split
    · rename_i hn
      have : n = 0 := by omega
      subst this
      exact ⟨by decide, fin Str.empty 0 rfl⟩
    · split
      · rename_i hn hc
        refine ⟨.str z, H, I, ⟨_, rfl⟩, q z ?_⟩
        rw [Bool.or_eq_true] at hc
        rcases hc with hc | hc
        · have : n = 1 := by simpa using hc
          subst this
          simp
        · have : tl z = [] := by
            have : z.length = 0 := by simpa using hc
            exact List.length_eq_zero_iff.mp (by rw [← this]; simp [Str.length])
          rw [this]
          simp
      · refine ⟨?_, fin _ 0 ?_⟩
        · have e : ((List.replicate n.toNat z.cps).foldl (· ++ ·) #[]).size = z.length * n.toNat := by
            rw [← Array.length_toList, fold_tl, List.length_append, List.length_flatten, List.map_replicate]
            simp [Str.length, Nat.mul_comm]
          show ((List.replicate n.toNat z.cps).foldl (· ++ ·) #[]).size ≤ sizeLine
          rw [e]
          exact sz
        · show ((List.replicate n.toNat z.cps).foldl (· ++ ·) #[]).toList = _
          rw [fold_tl]
          rfl
end Vf

set_option Elab.async false
set_option linter.all false
set_option maxRecDepth 100000
set_option maxHeartbeats 4000000
namespace Vf
open PySem PySem.Spec PyProof.Rows L2
/-- sorted of a dict with whole numbers as keys, any number of them -/
theorem call_sortedDA {X : Cx} (hcalm : X.calm = true) : CallR X (.builtin "sorted") fun xs H Q => ∃ (a : Addr) (kvs : List (Key × V)) (ks : List Int), xs = [.ref a] ∧ Rd H a (.dK kvs) ∧ kvs.map (·.1) = ks.map Sum.inl ∧
    ∀ (ys : List Int) (p : Addr), ys.Perm ks → ys.Pairwise (· ≤ ·) → H p = none → Q (.ref p) (upd H p (.lst (ys.map V.int))) := by
  rintro pins s σ H xs us Q hI hv ⟨a, kvs, ks, rfl, hR, hk, k⟩
  obtain ⟨u, rfl, hu⟩ := vals1 hv
  cases hu
  obtain ⟨hn, hd, vs, hKV, hD⟩ := dk_rd hI.hok hR
  obtain ⟨ep, hA⟩ := hD.dictAt
  have lv : vs.length = kvs.length := by
    have := congrArg List.length hKV.keys
    rw [List.length_map, List.length_map] at this
    exact this.symm
  refine PySem.Calls.call_function_entry kind_sorted plain_sorted entry_sorted (args_sorted1 _) ?_
  show wpAny _ _ (Builtin.sorted { pos := [Value.ref a] }) _ _ _
  unfold Builtin.sorted
  refine wpAny_bind (wpAny_pure ?_)
  refine wpAny_bind (PySem.W.kdu_collect (PySem.W.kdl_dict hd) (hI.ok.hd hcalm) hA (by rw [lv]; exact hn) fun h' tk acc hh hit => ?_)
  have la : acc.size = vs.length := hit.1
  have lk : ks.length = vs.length := by
    have := congrArg List.length hk
    rw [List.length_map, List.length_map] at this
    omega
  have hints : IntsAre acc.toList ks := by
    refine ints_each (by rw [Array.length_toList, la, lk]) fun j v hj => ?_
    rw [Array.getElem?_toList] at hj
    obtain ⟨key, x, h1, h2⟩ := hit.2 j v hj
    have e1 : (vs.map (·.1))[j]? = some key := by rw [List.getElem?_map, h1] <;> rfl
    rw [← hKV.keys, hk, List.getElem?_map] at e1
    obtain ⟨i, hi, rfl⟩ := Option.map_eq_some_iff.mp e1
    rcases keyIs_shape (show keyIs (Sum.inl i) v = true from h2) with ⟨i', t, e, rfl⟩ | ⟨_, _, e, _⟩
    · cases e
      exact ⟨_, _, hi, rfl⟩
    · cases e
  have lz : acc.toList.length ≤ sizeLine := by
    rw [Array.length_toList, la, lv]
    exact hn
  refine wpAny_bind (wpAny_newList ?_ lz)
  have hp := Heap.get?_push_size h' (o := { cls := .type "list", data := .seq acc.toList.toArray }) rfl
  have old : ∀ (b : Addr) (u : Obj), s.heap.get? b = some u → b < h'.objs.size ∧ h'.get? b = some u := fun b u hb => ⟨Heap.lt_size (hh b u hb), hh b u hb⟩
  refine wpAny_bind (wpAny_holding (wpAny_call_entry slot_list_sort ⟨_, hp, rfl⟩ entry_list_sort ?_ (args_list_sort _)))
  refine SrtO.list_sort_ord SrtO.swo_int (vs := acc.toList) (n := 0) hp lz (fun h2 => SrtO.ints_sortable hints h2) fun out h1 h2 => ?_
  obtain ⟨o1, o2, o3⟩ := SrtO.ints_out hints h1 h2
  obtain ⟨e, he⟩ := sortedHeap_at (out := out.toArray) hp
  refine ⟨_, rfl, wpAny_pure ⟨_, rfl, ?_⟩⟩
  have hI2 := hI.kept (t' := tk) hh
  refine ⟨.ref h'.objs.size, _, hI2.laid (a := h'.objs.size) (o := .lst ((out.map SrtO.iv).map V.int)) (fun b u hb => ?_) (Nat.le_refl _) ?_, rfl, k _ _ o2 o3 (hI2.hok.fresh (Nat.le_refl _))⟩
  · have x1 := Heap.lt_size hb
    rw [sortedHeap_old (Nat.ne_of_lt x1) (Nat.lt_of_lt_of_eq (Nat.lt_succ_of_lt x1) (size_push' _ _).symm)]
    exact Heap.get?_push_of_some _ hb
  · refine ⟨?_, out, e, vals_of_ints o1, he⟩
    rw [List.length_map, o2.length_eq, lk, lv]
    exact hn
end Vf

set_option Elab.async false
set_option linter.all false
set_option maxRecDepth 100000
set_option maxHeartbeats 4000000
namespace Vf
open PySem PySem.Spec PyProof.Rows L2
/-! Own words: a tuple, walked with its numbers. -/
theorem next_tup_item {prog : Program} {w : World} {A : Around} {E : Value → Shared → Prop} {s : Shared} {it l : Addr} {i : Nat} {items : Array Value} {x : Value} {Q : Value → Shared → Prop}
    (h1 : s.heap.IsTupleIter it l i) (h2 : s.heap.IsTuple l items) (hx : items[i]? = some x)
    (k : ∀ h' : Heap, h'.IsTupleIter it l (i + 1) → Heap.SameBut it s.heap h' → Q x { heap := h', gens := s.gens, drawn := s.drawn, toks := s.toks, os := s.os }) :
    wpAny (model prog w) A (Builtin.SmallTypes.nextOf (.ref it)) Q E s := by
  have ht := h1.typeIs
  obtain ⟨o, ho, hc, hd⟩ := h1
  obtain ⟨o2, ho2, hc2, n, hd2⟩ := h2
  unfold Builtin.SmallTypes.nextOf
  refine wpAny_bind (wpAny_callSpecial?_slot ht F.slot_tuple_iterator_next (wpAny_call_entry F.slot_tuple_iterator_next ht F.entry_tuple_iterator_next ?_ (F.args_tuple_iterator_next_1 _)))
  refine wpAny_bind (wpAny_pure ?_)
  refine wpAny_bind (wpAny_field ho hd rfl ?_)
  refine wpAny_bind (wpAny_field ho hd rfl ?_)
  refine wpAny_bind (wpAny_seqItems ho2 hd2 ?_)
  show wpAny _ _ (match items[(i : Int).toNat]? with
    | some x => _
    | none => _) _ _ _
  rw [Int.toNat_natCast, hx]
  refine wpAny_bind (wpAny_setField ho hd (by show 1 < 2; decide) (wpAny_pure ⟨_, rfl, ?_⟩))
  refine wpAny_pure (k _ ⟨_, Heap.get?_update_self _ ho ?_, ?_, ?_⟩ (Heap.SameBut.update _ _ _))
  · exact Obj.isFreed_of_fields (Obj.data_mapFields hd _)
  · exact (Obj.cls_mapFields _ _).trans hc
  · exact Obj.data_mapFields hd _
theorem next_tup_end {prog : Program} {w : World} {A : Around} {E : Value → Shared → Prop} {s : Shared} {it l : Addr} {i : Nat} {items : Array Value} {Q : Value → Shared → Prop}
    (hA : A.handled = none) (h1 : s.heap.IsTupleIter it l i) (h2 : s.heap.IsTuple l items) (hx : items[i]? = none)
    (k : ∀ (h' : Heap) (e : Addr), Heap.ExtBut it s.heap h' → (∃ o, h'.get? e = some o ∧ o.cls = .type "StopIteration") → E (.ref e) { heap := h', gens := s.gens, drawn := s.drawn, toks := s.toks, os := s.os }) :
    wpAny (model prog w) A (Builtin.SmallTypes.nextOf (.ref it)) Q E s := by
  have ht := h1.typeIs
  obtain ⟨o, ho, hc, hd⟩ := h1
  obtain ⟨o2, ho2, hc2, n, hd2⟩ := h2
  unfold Builtin.SmallTypes.nextOf
  refine wpAny_bind (wpAny_callSpecial?_slot ht F.slot_tuple_iterator_next (wpAny_call_entry F.slot_tuple_iterator_next ht F.entry_tuple_iterator_next ?_ (F.args_tuple_iterator_next_1 _)))
  refine wpAny_bind (wpAny_pure ?_)
  refine wpAny_bind (wpAny_field ho hd rfl ?_)
  refine wpAny_bind (wpAny_field ho hd rfl ?_)
  refine wpAny_bind (wpAny_seqItems ho2 hd2 ?_)
  show wpAny _ _ (match items[(i : Int).toNat]? with
    | some x => _
    | none => _) _ _ _
  rw [Int.toNat_natCast, hx]
  refine wpAny_bind (wpAny_rule ?_)
  refine wpAny_bind (wpAny_setField ho hd (by show 0 < 2; decide) ?_)
  unfold Builtin.SmallTypes.stopIteration newExc
  refine wpAny_bind (wpAny_bind (wpAny_newObj_type ?_ (by show 0 ≤ sizeLine; exact Nat.zero_le _)))
  have fm : firstArgMember (.type "StopIteration") [] = pure .none := by
    unfold firstArgMember
    show (pure (if _ then Value.none else Value.none) : Sem Value) = pure .none
    rw [ite_self]
  refine wpAny_bind (wpAny_of_eq fm ?_)
  refine wpAny_newObj_type ?_ (sizeOk_excFields _ _ _ _ _ _ _ _)
  unfold raiseNew
  refine wpAny_bind (wpAny_handled ?_)
  rw [show A.in1.handled = none from hA]
  refine wpAny_throw (k _ _ (Heap.ExtBut.push (Heap.ExtBut.push (Heap.SameBut.update _ _ _).extBut _) _) ⟨_, Heap.get?_push_size _ rfl, rfl⟩)
theorem isTup_at {h h' : Heap} {a : Addr} {items : Array Value} (x : h.IsTuple a items) (k : ∀ o, h.get? a = some o → h'.get? a = some o) : h'.IsTuple a items := by
  obtain ⟨o, ho, r⟩ := x
  exact ⟨o, k o ho, r⟩
theorem draws_tup {prog : Program} {w : World} {A : Around} (hA : A.handled = none) (it l : Addr) (n : l ≠ it) (items : Array Value) :
    Draws prog w A it [it, l] items.size (fun i v => items[i]? = some v) fun i h => h.IsTupleIter it l i ∧ h.IsTuple l items where
  live := fun i h x => by
    obtain ⟨⟨o, ho, _⟩, _⟩ := x
    exact ⟨o, ho⟩
  frame := fun i h h' x k => ⟨x.1.at (k it (by simp)), isTup_at x.2 (k l (by simp))⟩
  item := fun i s Q E hi x k => by
    refine next_tup_item x.1 x.2 (Array.getElem?_eq_getElem hi) fun h' h1 h2 => ?_
    exact k _ h' s.toks (Array.getElem?_eq_getElem hi) ⟨h1, isTup_at x.2 fun o ho => by rw [h2.2 l n]; exact ho⟩ h2
  done := fun s Q E x k => by
    refine next_tup_end hA x.1 x.2 (by simp) fun h' e h1 h2 => k h' e h1 h2
theorem wp_ite2 {α : Type} {M : Model} {A : Around} {E : Value → Shared → Prop} {s : Shared} {c : Prop} [Decidable c] {a b : Sem α} {Q : α → Shared → Prop} (ha : wpAny M A a Q E s) (hb : wpAny M A b Q E s) : wpAny M A (if c then a else b) Q E s := by
  split
  · exact ha
  · exact hb
theorem meets_enum_tup (l : Addr) (items : Array Value) : Meets (Builtin.«enumerate.__new__» { pos := [.type "enumerate", .ref l] }) fun x R s =>
    s.heap.IsTuple l items ∧ R (.ok (.ret (.ref (s.heap.push { cls := .type "tuple_iterator", data := .fields #[.ref l, .int 0 0] }).objs.size)))
      { heap := (s.heap.push { cls := .type "tuple_iterator", data := .fields #[.ref l, .int 0 0] }).push
          { cls := .type "enumerate", data := .fields #[.none, .bool false, .ref s.heap.objs.size, rawInt 0, .none, .none] },
        gens := s.gens, drawn := s.drawn, toks := s.toks, os := s.os } := by
  intro prog w A R s h
  obtain ⟨ht, k⟩ := h
  have nc : Builtin.SmallTypes.newClass "enumerate" { pos := [.type "enumerate", .ref l] } = pure (Value.type "enumerate", [Value.ref l]) := by
    unfold Builtin.SmallTypes.newClass
    show (isSubtype (.type "enumerate") (.type "enumerate") >>= fun b => if (!b) = true then _ else pure (Value.type "enumerate", [Value.ref l])) = _
    rw [sub_enumerate]
    rfl
  unfold Builtin.«enumerate.__new__»
  refine wpAny_bind (wpAny_of_eq nc ?_)
  refine wpAny_ite_true (by decide) ?_
  unfold Builtin.SmallTypes.calledThroughType
  refine wpAny_bind (wpAny_bind (wpAny_stack_any fun st => wpAny_pure ?_))
  refine wp_ite2 ?_ ?_
  all_goals
    refine wpAny_bind (wpAny_of_eq (a := (Value.ref l, none)) rfl ?_)
    refine wpAny_bind (wpAny_pyIter_tuple ht ?_)
    refine wpAny_bind (wpAny_newObj_type (data := .fields #[.none, .bool false, .ref s.heap.objs.size, rawInt 0, .none, .none]) ?_ (by show 6 ≤ sizeLine + 2; rw [sizeLine_eq]; decide))
    exact wpAny_pure k
theorem call_enum_tup {prog : Program} {w : World} {A : Around} {E : Value → Shared → Prop} {s : Shared} {l : Addr} {items : Array Value} {Q : Value → Shared → Prop} (ht : s.heap.IsTuple l items)
    (k : ∀ h' : Heap, IsEnum h' (s.heap.objs.size + 1) s.heap.objs.size 0 .none → h'.IsTupleIter s.heap.objs.size l 0 → h'.objs.size = s.heap.objs.size + 2 → (∀ (b : Addr) (o : Obj), s.heap.get? b = some o → h'.get? b = some o) →
      Q (.ref (s.heap.objs.size + 1)) { heap := h', gens := s.gens, drawn := s.drawn, toks := s.toks, os := s.os }) :
    wpAny (model prog w) A (call (.type "enumerate") [.ref l]) Q E s := by
  have e1 : (s.heap.push { cls := .type "tuple_iterator", data := .fields #[.ref l, .int 0 0] }).objs.size = s.heap.objs.size + 1 := size_push' _ _
  have g1 := Heap.get?_push_size (s.heap.push { cls := .type "tuple_iterator", data := .fields #[.ref l, .int 0 0] }) (o := { cls := .type "enumerate", data := .fields #[.none, .bool false, .ref s.heap.objs.size, rawInt 0, .none, .none] }) rfl
  rw [e1] at g1
  refine callType_new F.called_enumerate (by decide) (F.typeCall_enumerate_1 _) (F.newCall_enumerate_1 _) (fun obj => F.args_object_init_2 _ _) F.entry_enumerate_new (meets_enum_tup l items) ⟨ht, ?_⟩
  show Shared.TypeIs _ (.ref _) "enumerate" ∧ Q (.ref _) _
  rw [e1]
  refine ⟨⟨_, g1, rfl⟩, k _ g1 ⟨_, Heap.get?_push_of_some _ (Heap.get?_push_size _ rfl), rfl, rfl⟩ ?_ fun b o hb => Heap.get?_push_of_some _ (Heap.get?_push_of_some _ hb)⟩
  rw [size_push', e1]
theorem enum_tup_end {prog : Program} {w : World} {A : Around} {E : Value → Shared → Prop} {s : Shared} {e it l : Addr} {i : Nat} {items : Array Value} {old : Value} {Q : Option Value → Shared → Prop}
    (hA : A.handled = none) (he : IsEnum s.heap e it (i : Nat) old) (h1 : s.heap.IsTupleIter it l i) (h2 : s.heap.IsTuple l items) (n : l ≠ it) (hx : items[i]? = none)
    (k : ∀ h' : Heap, Heap.ExtBut it s.heap h' → Q none { heap := h', gens := s.gens, drawn := s.drawn, toks := s.toks, os := s.os }) : wpAny (model prog w) A (pyNext (.ref e)) Q E s := by
  have d : Draws prog w A.in1 it [it, l] i (fun _ _ => True) (fun j h => j = i ∧ h.IsTupleIter it l j ∧ h.IsTuple l items) :=
    { live := fun j h x => by
        obtain ⟨_, ⟨o, ho, _⟩, _⟩ := x
        exact ⟨o, ho⟩
      frame := fun j h h' x k => ⟨x.1, x.2.1.at (k it (by simp)), isTup_at x.2.2 (k l (by simp))⟩
      item := fun j s Q E hj x k => absurd x.1 (Nat.ne_of_lt hj)
      done := fun s Q E x k => next_tup_end (show A.in1.handled = none from hA) x.2.1 x.2.2 hx fun h' e h1 h2 => k h' e h1 h2 }
  exact wpAny_pyNext_enum_endD d he ⟨rfl, h1, h2⟩ k
/-- the turns of enumerate(t), t a tuple -/
def Itet (K : PySem.W.Frag) (a : Addr) : It where
  go := fun i H => ∃ xs x, SqT K H a xs ∧ xs[i]? = some x
  yld := fun i H v H' => ∃ T x, v = .ref T ∧ H T = none ∧ H' = upd H T (.tup [.int (i : Nat), x]) ∧ ∀ xs, SqT K H a xs → xs[i]? = some x
  stop := fun i H => ∃ xs, SqT K H a xs ∧ xs.length ≤ i
theorem turn_enumT {P : Program} {w : World} {K : PySem.W.Frag} {elts : List Expr} {kk : Nat} {tpos : Pos} (a e it : Addr) :
    Turn P w K (.Tuple elts kk tpos) (Itet K a) [e, it] e fun i h => (∃ old, IsEnum h e it (i : Nat) old) ∧ h.IsTupleIter it a i ∧ e ≠ it where
  mem := by simp
  obj := fun i h x b hb => by
    obtain ⟨⟨old, x1⟩, ⟨o, x2, _, x3⟩, _⟩ := x
    rcases List.mem_cons.mp hb with rfl | hb
    · exact ⟨_, x1, fun v hv => by cases hv⟩
    · rw [List.mem_singleton.mp hb]
      exact ⟨_, x2, fun v hv => by rw [x3] at hv; cases hv⟩
  keep := fun i h h' x k => ⟨⟨x.1.choose, k e (by simp) _ x.1.choose_spec⟩, x.2.1.at (k it (by simp)), x.2.2⟩
  item := by
    rintro X rfl rfl rfl hc i pins s σ H E I fp ⟨⟨old, he⟩, hit, ne⟩ ⟨xs, x, hs, hx⟩
    obtain ⟨its, hv, ht, hl⟩ := I.tuple hs
    obtain ⟨u, hu, ru⟩ := hv.get hx
    have hA : X.A.handled = none := I.ok.hd hc
    obtain ⟨o1, h1, hc1, n1, hd1⟩ := ht
    obtain ⟨o2, h2, hc2, hd2⟩ := hit
    have na : a ≠ it := fun z => by
      rw [z, h2] at h1
      cases h1
      rw [hc2] at hc1
      injection hc1 with hc1
      exact absurd hc1 (by decide)
    have nea : e ≠ a := fun z => by
      have he : s.heap.get? e = _ := he
      rw [z, h1] at he
      injection he with he
      rw [he] at hc1
      injection hc1 with hc1
      exact absurd hc1 (by decide)
    have hi : i < its.toArray.size := by
      rw [List.size_toArray]
      exact (List.getElem?_eq_some_iff.mp hu).1
    refine wpAny_pyNext_enum_itemD (draws_tup (show X.A.in1.handled = none from hA) it a na its.toArray) he ⟨⟨o2, h2, hc2, hd2⟩, ⟨o1, h1, hc1, n1, hd1⟩⟩ hi ne (by simp [ne, nea]) fun x' h' tk px hout hst htup hsz hold => ?_
    refine ⟨_, rfl, wpAny_letOwnedTupleGo_enum hout fun h2' hen hsb => ?_⟩
    have ex : x' = u := by
      rw [List.getElem?_toArray, hu] at px
      cases px
      rfl
    subst ex
    have se : s.heap.objs.size ≠ e := fun z => by
      have := Heap.lt_size (show s.heap.get? e = _ from he)
      rw [z] at this
      exact Nat.lt_irrefl _ this
    have fresh : ∀ b, s.heap.objs.size ≤ b → H b = none := fun b hb => I.hok.fresh hb
    refine ⟨.ref s.heap.objs.size, upd H s.heap.objs.size (.tup [.int (i : Nat), x]), ?_, rfl, ⟨_, x, rfl, fresh _ (Nat.le_refl _), rfl, fun ys hys => ?_⟩, ⟨⟨_, hen⟩, hst.1.at fun o ho => ?_, ne⟩, fun b hb => ?_⟩
    · refine I.turnedNew (ch := [e, it]) (fun b o hb ho => ?_) fp (Nat.le_refl _) ⟨by show 2 ≤ sizeLine; rw [sizeLine_eq]; decide, [.int i tk, x'], ?_, ?_⟩
      · have n1 : b ≠ e := fun z => hb (by rw [z]; simp)
        have n2 : b ≠ it := fun z => hb (by rw [z]; simp)
        rw [hsb.2 b n1]
        exact hold b o n1 n2 ho
      · exact .cons ⟨tk, rfl⟩ (.cons ru .nil)
      · exact ⟨_, (hsb.2 _ se).trans htup, rfl, _, rfl⟩
    · rw [I.tuple_inj hys hs]
      exact hx
    · rw [hsb.2 it (Ne.symm ne)]
      exact ho
    · have hf := (fp b hb).1
      have lt : b < s.heap.objs.size := by
        rcases List.mem_cons.mp hb with rfl | hb
        · exact Heap.lt_size (show s.heap.get? b = _ from he)
        · rw [List.mem_singleton.mp hb]
          exact Heap.lt_size h2
      rw [upd_ne (Nat.ne_of_lt lt)]
      exact hf
  done := by
    rintro X rfl rfl rfl hc i pins s σ H E I fp ⟨⟨old, he⟩, hit, ne⟩ ⟨xs, hs, hx⟩
    obtain ⟨its, hv, ht, hl⟩ := I.tuple hs
    have hA : X.A.handled = none := I.ok.hd hc
    obtain ⟨o1, h1, hc1, n1, hd1⟩ := ht
    have hit2 := hit
    obtain ⟨o2, h2, hc2, hd2⟩ := hit
    have na : a ≠ it := fun z => by
      rw [z, h2] at h1
      cases h1
      rw [hc2] at hc1
      injection hc1 with hc1
      exact absurd hc1 (by decide)
    have f := fp it (by simp)
    refine enum_tup_end hA he hit2 ⟨o1, h1, hc1, n1, hd1⟩ na ?_ fun h' hx' => ?_
    · rw [List.getElem?_toArray]
      exact List.getElem?_eq_none_iff.mpr (by rw [← hv.length]; exact hx)
    · exact ⟨rfl, I.turned (it := it) (fun b o n h => hx' b o n h) f.1 f.2.1 f.2.2.2.1 f.2.2.2.2.1 f.2.2.2.2.2⟩
  self := fun A i s Q E x q => wpAny_pyIter_enum x.1.choose_spec q
def iEnumT (K : PySem.W.Frag) (ta : TA) : TI := fun σ H R => ta σ H fun vs H1 => ∃ a xs, vs = [V.ref a] ∧ SqT K H1 a xs ∧ R (Itet K a) H1
theorem pi_enumT {X : Cx} {e : Expr} {ta : TA} {p pos tpos : Pos} {elts : List Expr} {kk : Nat} (hg : Gl X "enumerate") (hm : X.mg "enumerate" = none) (ha : PA X [e] ta)
    (st : starEach [e] X.env = [(false, eval e X.env)] := by rfl) : PI X (.Tuple elts kk tpos) (.Call (.Name "enumerate" p) [e] [] pos) (iEnumT X.K ta) := by
  refine ⟨fun pins s σ H R I h => ?_⟩
  refine Call_ (ld_blt I hg hm boot_enumerate ?_) (by rfl)
  refine callWith_type1 ?_ st (by rfl)
  refine thn (ha.run pos pins s σ H _ I h) ?_
  rintro us s1 ⟨vs, H1, I1, rv, a, xs, rfl, hs, hr⟩
  obtain ⟨u, rfl, hu⟩ := vals1 rv
  cases hu
  obtain ⟨its, hv, ht, hl⟩ := I1.tuple hs
  refine call_enum_tup ht fun h' h1 h2 h3 h4 => ?_
  refine wpAny_pyIter_enum h1 ⟨_, [s1.heap.objs.size + 1, s1.heap.objs.size], _, _, H1, rfl, I1.kept h4, turn_enumT a _ s1.heap.objs.size, ⟨⟨_, h1⟩, h2, Nat.succ_ne_self _⟩, fun b hb => ?_, hr⟩
  have le : s1.heap.objs.size ≤ b := by
    rcases List.mem_cons.mp hb with rfl | hb
    · exact Nat.le_succ _
    · rw [List.mem_singleton.mp hb]
      exact Nat.le_refl _
  exact I1.fpOk le (I1.hok.fresh le)
theorem walk_enumT {K : PySem.W.Frag} {a : Addr} {xs : List V} : Walk (Itet K a) xs.length (fun H => SqT K H a xs) (YPair (fun i => some (.int (i : Nat))) (fun i => xs[i]?)) where
  goes := fun i H hi h => ⟨xs, xs[i], h, List.getElem?_eq_getElem hi⟩
  stops := fun H h => ⟨xs, h, Nat.le_refl _⟩
  yields := fun i H v H' hi h y => by
    obtain ⟨T, x, rfl, hT, rfl, hx⟩ := y
    exact ⟨T, _, x, rfl, hT, rfl, rfl, hx xs h⟩
/-- k in d, d a dict that the top has written -/
theorem op_in_kdw {X : Cx} : OpR X (compareOp .In) fun x y H Q => ∃ d kvs k, x = kV k ∧ y = .ref d ∧ KD X.K X.w d kvs ∧ Q (.bl (valV kvs k).isSome) H := by
  rintro pins s σ H x y v u Q I rx ry ⟨d, kvs, k, rfl, rfl, D, q⟩
  cases ry
  obtain ⟨g, hm, hg⟩ := D.map (P := X.prog) I.kIn
  obtain ⟨es, n, hl, low, _⟩ := D
  refine wpAny_in_of (kV_is rx) low hm ⟨_, H, I.tok _, ?_, q⟩
  rw [(hg k).isSome_eq]
  rfl
theorem dc_itv {J : It} {n : Nat} {G : Hp → Prop} {Y : Nat → Hp → V → Hp → Prop} (w : Walk J n G Y) {g : TG} {tt : TT} {tk tv : TE} {vs : List Nat} {σ : L2.St} {H1 : Hp} {D : Addr} {Qd : Hp → Prop}
    (Pv : Nat → Hp → Prop) (h0 : Pv 0 (upd H1 D (.dK []))) (hl : ∀ (i : Nat) (H : Hp), i ≤ n → Pv i H → G H)
    (hs : ∀ (i : Nat) (x : V) (H H' : Hp), i < n → Pv i H → Y i H x H' → g x (wipe σ vs) H' fun σ2 H2 => wipe σ2 vs = wipe σ vs ∧ tt σ2 H2 fun b H3 =>
      if b = true then tk σ2 H3 fun y H4 => tv σ2 H4 fun z H5 => ∃ kvs k, y = kV k ∧ H5 D = some (.dK kvs) ∧ kvs.length < sizeLine ∧ Pv (i + 1) (upd H5 D (.dK (putK kvs k z))) else Pv (i + 1) H3)
    (hd : ∀ H, Pv n H → Qd H) :
    ∃ W : Nat → Nat → Hp → Prop, (∃ m, W 0 m (upd H1 D (.dK []))) ∧ ∀ (i m : Nat) (H : Hp), W i m H → J.stop i H ∧ Qd H ∨ J.go i H ∧ ∃ Nx : Hp → Prop, (∀ H', Nx H' → ∃ m', m' < m ∧ W (i + 1) m' H') ∧
      ∀ (x : V) (H' : Hp), J.yld i H x H' → g x (wipe σ vs) H' fun σ2 H2 => wipe σ2 vs = wipe σ vs ∧ tt σ2 H2 fun b H3 =>
        if b = true then tk σ2 H3 fun y H4 => tv σ2 H4 fun z H5 => ∃ kvs k, y = kV k ∧ H5 D = some (.dK kvs) ∧ kvs.length < sizeLine ∧ Nx (upd H5 D (.dK (putK kvs k z))) else Nx H3 := by
  refine ⟨fun i m H => i ≤ n ∧ m = n - i ∧ Pv i H, ⟨n, Nat.zero_le _, rfl, h0⟩, fun i m H ⟨hi, hm, hp⟩ => ?_⟩
  have hg := hl i H hi hp
  rcases Nat.lt_or_ge i n with q | q
  · refine .inr ⟨w.goes i H q hg, Pv (i + 1), fun H' h' => ⟨n - (i + 1), by omega, q, rfl, h'⟩, fun x H' hy => hs i x H H' q hp (w.yields i H x H' q hg hy)⟩
  · obtain rfl : i = n := by omega
    exact .inl ⟨w.stops H hg, hd H hp⟩
end Vf

set_option Elab.async false
set_option linter.all false
set_option maxRecDepth 100000
set_option maxHeartbeats 4000000
/-! Own words: data with dicts in it. -/
namespace Vf
open PySem PySem.Spec PyProof.Rows L2
def keyD : Key → PyData
  | .inl i => .int i
  | .inr x => .str x
mutual
/-- data, dicts with whole numbers and texts as keys among it -/
inductive Dx (K : PySem.W.Frag) (H : Hp) : V → PyData → Prop
  | non : Dx K H .non .none
  | bl (b : Bool) : Dx K H (.bl b) (.bool b)
  | int (i : Int) : Dx K H (.int i) (.int i)
  | str (x : Str) : Dx K H (.str x) (.str x)
  | lst {a : Addr} {xs : List V} {ds : List PyData} : SqL K H a xs → DxAll K H xs ds → Dx K H (.ref a) (.list ds)
  | tup {a : Addr} {xs : List V} {ds : List PyData} : SqT K H a xs → DxAll K H xs ds → Dx K H (.ref a) (.tuple ds)
  | dic {a : Addr} {kvs : List (Key × V)} {ds : List PyData} : Rd H a (.dK kvs) → (kvs.map (·.1)).Nodup → DxAll K H (kvs.map (·.2)) ds → Dx K H (.ref a) (.dict ((kvs.map fun q => keyD q.1).zip ds))
inductive DxAll (K : PySem.W.Frag) (H : Hp) : List V → List PyData → Prop
  | nil : DxAll K H [] []
  | cons {v : V} {vs : List V} {d : PyData} {ds : List PyData} : Dx K H v d → DxAll K H vs ds → DxAll K H (v :: vs) (d :: ds)
end
mutual
theorem Dp.dx {K : PySem.W.Frag} {H : Hp} : ∀ {v : V} {d : PyData}, Dp K H v d → Dx K H v d
  | _, _, .non => .non
  | _, _, .bl b => .bl b
  | _, _, .int i => .int i
  | _, _, .str x => .str x
  | _, _, .lst h a => .lst h (DpAll.dx a)
  | _, _, .tup h a => .tup h (DpAll.dx a)
theorem DpAll.dx {K : PySem.W.Frag} {H : Hp} : ∀ {vs : List V} {ds : List PyData}, DpAll K H vs ds → DxAll K H vs ds
  | _, _, .nil => .nil
  | _, _, .cons a b => .cons (Dp.dx a) (DpAll.dx b)
end
theorem keys_read {P : Program} {w : World} {h : Heap} : ∀ {es : List DictEntry} {vs : List (Key × Value)} {kvs : List (Key × V)}, Pairs (mixKind P w) es vs → KV kvs vs →
    ReadsAll h (es.map (·.key)) (kvs.map fun q => keyD q.1) [] ∧ Vals (kvs.map (·.2)) (es.map (·.val))
  | _, _, _, .nil, hk => by
    cases hk
    exact ⟨.nil, .nil⟩
  | _, _, _, .cons (e := e) (kv := kv) h1 h2 h3, hk => by
    cases hk with
    | cons q r =>
      obtain ⟨i1, i2⟩ := keys_read (h := h) h3 r
      refine ⟨?_, .cons (by show L2.RelV _ e.val; rw [h2]; exact q.2) i2⟩
      have h1 : keyIs kv.1 e.key = true := h1
      rw [← q.1] at h1
      have one : ∀ k : Key, keyIs k e.key = true → Reads h e.key (keyD k) [] := fun k hk => by
        rcases keyIs_shape hk with ⟨i, t, e1, e2⟩ | ⟨x, t, e1, e2⟩
        · rw [e1, e2]
          exact .int i t
        · rw [e1, e2]
          exact .str x t
      exact .cons (one _ h1) i1
theorem zip_fst : ∀ {a b : List PyData}, a.length = b.length → (a.zip b).map (·.1) = a ∧ (a.zip b).map (·.2) = b
  | [], [], _ => ⟨rfl, rfl⟩
  | x :: a, y :: b, h => by
    obtain ⟨h1, h2⟩ := zip_fst (a := a) (b := b) (by rw [List.length_cons, List.length_cons] at h; omega)
    exact ⟨congrArg (x :: ·) h1, congrArg (y :: ·) h2⟩
theorem DxAll.len {K : PySem.W.Frag} {H : Hp} : ∀ {vs : List V} {ds : List PyData}, DxAll K H vs ds → vs.length = ds.length
  | _, _, .nil => rfl
  | _, _, .cons _ r => congrArg (· + 1) r.len
/-- no tracked object is sys.modules, once that stands in the law's own heap -/
theorem sys_free {X : Cx} {pins : List (Addr × Obj)} {σ : L2.St} {H : Hp} {s : Shared} {o : Obj} (hb : X.base.get? sysModules = some o) (I : L2.Inv X pins σ H s) : H sysModules = none :=
  I.base.free _ _ (I.ok.bs _ _ hb).1 (I.ok.bs _ _ hb).2 (I.ok.noex _ _ hb)
theorem rd_sys {X : Cx} {pins : List (Addr × Obj)} {σ : L2.St} {H : Hp} {s : Shared} {o : Obj} (hb : X.base.get? sysModules = some o) (I : L2.Inv X pins σ H s) {a : Addr} {u : HO} (h : Rd H a u) : a ≠ sysModules := fun z => by
  have n := sys_free hb I
  rw [← z] at n
  rcases h with h | ⟨_, h⟩ <;> (rw [n] at h; cases h)
theorem list_sys {X : Cx} {pins : List (Addr × Obj)} {σ : L2.St} {H : Hp} {s : Shared} (hb : ∃ o, X.base.get? sysModules = some o ∧ o.cls = .type "dict") (I : L2.Inv X pins σ H s) {a : Addr} {xs : List V} (h : SqL X.K H a xs) : a ≠ sysModules := by
  obtain ⟨o, h1, h2⟩ := hb
  rcases h with h | ⟨o', its, n, h3, h4, _⟩
  · exact rd_sys h1 I h
  · intro z
    have := I.ok.mod.kin _ _ h3
    rw [z, h1] at this
    cases this
    rw [h2] at h4
    injection h4 with h4
    exact absurd h4 (by decide)
section
variable {X : Cx} {pins : List (Addr × Obj)} {σ : L2.St} {H : Hp} {s : Shared}
mutual
theorem Dx.reads (I : L2.Inv X pins σ H s) : ∀ {v : V} {d : PyData} {u : Value}, Dx X.K H v d → L2.RelV v u → ∃ as, Reads s.heap u d as ∧ ((∃ o, X.base.get? sysModules = some o ∧ o.cls = .type "dict") → sysModules ∉ as)
  | _, _, _, .non, r => by
    cases r
    exact ⟨_, .none, fun _ => by simp⟩
  | _, _, _, .bl b, r => by
    cases r
    exact ⟨_, .bool b, fun _ => by simp⟩
  | _, _, _, .int i, r => by
    obtain ⟨t, rfl⟩ := r
    exact ⟨_, .int i t, fun _ => by simp⟩
  | _, _, _, .str x, r => by
    obtain ⟨t, rfl⟩ := r
    exact ⟨_, .str x t, fun _ => by simp⟩
  | _, _, _, .lst h a, r => by
    cases r
    obtain ⟨its, hv, ⟨o, n, h1, h2, _, h3⟩, _⟩ := I.list h
    obtain ⟨as, ha, hn⟩ := DxAll.reads I a hv
    refine ⟨_, .list h1 h2 h3 ha, fun hb hm => ?_⟩
    rcases List.mem_cons.mp hm with q | q
    · exact list_sys hb I h q.symm
    · exact hn hb q
  | _, _, _, .tup h a, r => by
    cases r
    obtain ⟨its, hv, ⟨o, h1, h2, n, h3⟩, _⟩ := I.tuple h
    obtain ⟨as, ha, hn⟩ := DxAll.reads I a hv
    exact ⟨_, .tuple h1 h2 h3 ha, hn⟩
  | _, _, _, .dic (kvs := kvs) (ds := ds) h _ a, r => by
    cases r
    obtain ⟨_, _, vs, hKV, o, es, ep, h1, h2, h3, _, hp, _⟩ := dk_rd I.hok h
    obtain ⟨r1, r2⟩ := keys_read (h := s.heap) hp hKV
    obtain ⟨as, ha, hn⟩ := DxAll.reads I a r2
    have l := a.len
    rw [List.length_map] at l
    obtain ⟨z1, z2⟩ := zip_fst (a := kvs.map fun q => keyD q.1) (b := ds) (by rw [List.length_map]; exact l)
    refine ⟨_, .dict h1 h2.1 h3 (by rw [z1]; exact r1) (by rw [z2]; exact ha), fun hb hm => ?_⟩
    obtain ⟨o', hb1, _⟩ := hb
    rcases List.mem_append.mp hm with q | q
    · exact rd_sys hb1 I h (List.mem_singleton.mp q).symm
    · exact hn ⟨o', hb1, by assumption⟩ q
theorem DxAll.reads (I : L2.Inv X pins σ H s) : ∀ {vs : List V} {ds : List PyData} {us : List Value}, DxAll X.K H vs ds → Vals vs us → ∃ as, ReadsAll s.heap us ds as ∧ ((∃ o, X.base.get? sysModules = some o ∧ o.cls = .type "dict") → sysModules ∉ as)
  | _, _, _, .nil, r => by
    cases r
    exact ⟨_, .nil, fun _ => by simp⟩
  | _, _, _, .cons a b, r => by
    cases r with
    | cons r1 r2 =>
      obtain ⟨as, h1, n1⟩ := Dx.reads I a r1
      obtain ⟨bs, h2, n2⟩ := DxAll.reads I b r2
      exact ⟨_, .cons h1 h2, fun hb hm => (List.mem_append.mp hm).elim (n1 hb) (n2 hb)⟩
end
end
/-- repr of data with dicts in it -/
def rReprX (K : PySem.W.Frag) (b : Heap) : List V → Hp → VK → Prop := fun xs H Q => ∃ (p : Addr) (d : PyData), xs = [.ref p] ∧ Dx K H (.ref p) d ∧ d.showable = true ∧ d.depth ≤ 60 ∧ d.shown.length ≤ sizeLine ∧ (∃ o, b.get? sysModules = some o ∧ o.cls = .type "dict") ∧ Q (.str d.shown) H
theorem call_reprX {X : Cx} (hu : X.A.units + 65 < cLine) (gd : X.A.guards = some []) : CallR X (.builtin "repr") (rReprX X.K X.base) := by
  rintro pins s σ H xs us Q I hv ⟨p, d, rfl, hd, sh, dp, sz, hb, k⟩
  obtain ⟨u, rfl, hu2⟩ := vals1 hv
  cases hu2
  obtain ⟨as, ha, hn⟩ := hd.reads I rfl
  exact repr_of_reads' ha sh (fun _ => hn hb) gd (by omega) (fun b o h => h) (fun h' u tk hh => ⟨.str d.shown, H, I.kept hh, ⟨u, rfl⟩, k⟩) sz
end Vf

set_option Elab.async false
set_option linter.all false
set_option maxRecDepth 100000
set_option maxHeartbeats 4000000
/-! Own words: == of data with dicts in it, their sizes; sorted of any data. -/
namespace Vf
open PySem PySem.Spec PyProof.Rows L2
open PySem.W (EqTree EachIs AllAlike Sortable)
theorem u70 {k : Nat} {A : Around} (r : Room k A) : A.units + 70 < cLine := by
  have := r.un
  omega
theorem u65 {k : Nat} {A : Around} (r : Room k A) : A.units + 65 < cLine := by
  have := r.un
  omega
theorem u1 {k : Nat} {A : Around} (r : Room k A) : A.units + 1 < cLine := by
  have := r.un
  omega
/-- y in d, d not in d -/
theorem op_inDict {X : Cx} (hu : X.A.units + 1 < cLine) : OpR X (compareOp .In) fun y x H Q => ∃ a o, x = .ref a ∧ DGet H a y o ∧ Q (.bl o.isSome) H := by
  rintro pins s σ H y x u v Q I ry rx ⟨a, o, rfl, g, q⟩
  cases rx
  exact d_in hu I g ry fun s2 I2 => ⟨.bl _, H, I2, rfl, q⟩
theorem op_notInDict {X : Cx} (hu : X.A.units + 1 < cLine) : OpR X (compareOp .NotIn) fun y x H Q => ∃ a o, x = .ref a ∧ DGet H a y o ∧ Q (.bl (!o.isSome)) H := by
  rintro pins s σ H y x u v Q I ry rx ⟨a, o, rfl, g, q⟩
  cases rx
  exact d_notIn hu I g ry fun s2 I2 => ⟨.bl _, H, I2, rfl, q⟩
theorem valV_some (k : Key) : ∀ kvs : List (Key × V), (valV kvs k).isSome = true ↔ k ∈ kvs.map (·.1)
  | [] => by simp [valV]
  | p :: r => by
    rw [List.map_cons, List.mem_cons]
    by_cases e : p.1 = k
    · rw [valV_pos e]
      exact ⟨fun _ => .inl e.symm, fun _ => rfl⟩
    · rw [valV_neg e, valV_some k r]
      exact ⟨.inr, fun h => h.resolve_left fun z => e z.symm⟩
theorem putK_new {kvs : List (Key × V)} {k : Key} (v : V) (h : k ∉ kvs.map (·.1)) : putK kvs k v = kvs ++ [(k, v)] := by
  unfold putK
  rw [if_neg]
  intro z
  obtain ⟨p, hp, e⟩ := List.any_eq_true.mp z
  exact h (by rw [← of_decide_eq_true e]; exact List.mem_map_of_mem hp)
theorem valV_mem : ∀ {kvs : List (Key × V)} {k : Key} {v : V}, (kvs.map (·.1)).Nodup → (k, v) ∈ kvs → valV kvs k = some v
  | p :: r, k, v, n, h => by
    rw [List.map_cons, List.nodup_cons] at n
    rcases List.mem_cons.mp h with e | h
    · rw [← e]
      exact valV_pos rfl
    · rw [valV_neg (fun e => n.1 (by rw [e]; exact List.mem_map_of_mem (f := fun q : Key × V => q.1) h))]
      exact valV_mem n.2 h
theorem merge_new : ∀ {more kvs : List (Key × V)}, ((kvs ++ more).map (·.1)).Nodup → mergeK kvs more = kvs ++ more
  | [], kvs, _ => (List.append_nil kvs).symm
  | p :: r, kvs, h => by
    show mergeK (putK kvs p.1 p.2) r = kvs ++ p :: r
    have e : kvs ++ p :: r = (kvs ++ [p]) ++ r := by rw [List.append_assoc] <;> rfl
    rw [e] at h ⊢
    rw [putK_new p.2 (fun z => by
      rw [List.map_append, List.nodup_append, List.map_append, List.nodup_append] at h
      exact h.1.2.2 p.1 z p.1 (by simp) rfl)]
    exact merge_new h
/-! ### == -/
theorem dx_lst {K : PySem.W.Frag} {H : Hp} {x : V} {d : PyData} {ds : List PyData} (h : Dx K H x d) (e : d = .list ds) : ∃ a xs, x = .ref a ∧ SqL K H a xs ∧ DxAll K H xs ds := by
  cases h <;> try (cases e)
  exact ⟨_, _, rfl, ‹_›, ‹_›⟩
theorem dx_tup {K : PySem.W.Frag} {H : Hp} {x : V} {d : PyData} {ds : List PyData} (h : Dx K H x d) (e : d = .tuple ds) : ∃ a xs, x = .ref a ∧ SqT K H a xs ∧ DxAll K H xs ds := by
  cases h <;> try (cases e)
  exact ⟨_, _, rfl, ‹_›, ‹_›⟩
theorem dx_dic {K : PySem.W.Frag} {H : Hp} {x : V} {d : PyData} {l : List (PyData × PyData)} (h : Dx K H x d) (e : d = .dict l) : ∃ (a : Addr) (kvs : List (Key × V)), x = .ref a ∧ Rd H a (.dK kvs) ∧ (kvs.map (·.1)).Nodup ∧ DxAll K H (kvs.map (·.2)) (l.map (·.2)) ∧ (kvs.map fun q => keyD q.1) = l.map (·.1) := by
  cases h with
  | @dic _ kvs ds h n a =>
    injection e with e
    have hl : (kvs.map fun q => keyD q.1).length = ds.length := by
      rw [List.length_map]
      have := a.len
      rw [List.length_map] at this
      exact this
    have z := zip_fst hl
    rw [e] at z
    refine ⟨_, _, rfl, h, n, ?_, z.1.symm⟩
    rw [z.2]
    exact a
  | _ => cases e
theorem keyD_inj {a b : Key} (h : keyD a = keyD b) : a = b := by
  cases a with
  | inl i =>
    cases b with
    | inl j =>
      injection h with h
      rw [h]
    | inr _ => cases h
  | inr i =>
    cases b with
    | inl j => cases h
    | inr _ =>
      injection h with h
      rw [h]
theorem keys_inj : ∀ {a b : List (Key × V)}, (a.map fun q => keyD q.1) = (b.map fun q => keyD q.1) → a.map (·.1) = b.map (·.1)
  | [], [], _ => rfl
  | [], _ :: _, h => by cases h
  | _ :: _, [], h => by cases h
  | x :: a, y :: b, h => by
    rw [List.map_cons, List.map_cons] at h ⊢
    injection h with h1 h2
    rw [keyD_inj h1, keys_inj h2]
theorem kv_vals : ∀ {ks : List (Key × V)} {vs : List (Key × Value)}, KV ks vs → Vals (ks.map (·.2)) (vs.map (·.2))
  | _, _, .nil => .nil
  | _, _, .cons h r => .cons h.2 (kv_vals r)
section
variable {X : Cx} {pins : List (Addr × Obj)} {σ : L2.St} {H : Hp} {s : Shared}
mutual
theorem Dx.eqT (I : L2.Inv X pins σ H s) : ∀ (d : PyData) (n : Nat) {x y : V} {v u : Value}, d.depth ≤ n → Dx X.K H x d → Dx X.K H y d → L2.RelV x v → L2.RelV y u → EqTree X.prog X.w s n v u true
  | .none, n, _, _, _, _, _, h1, h2, r1, r2 => by
    cases h1
    cases h2
    exact .leaf fun A _ => eqAt_same r1 r2 rfl
  | .bool b, n, _, _, _, _, _, h1, h2, r1, r2 => by
    cases h1
    cases h2
    exact .leaf fun A _ => eqAt_same r1 r2 rfl
  | .int i, n, _, _, _, _, _, h1, h2, r1, r2 => by
    cases h1
    cases h2
    exact .leaf fun A _ => eqAt_same r1 r2 rfl
  | .str z, n, _, _, _, _, _, h1, h2, r1, r2 => by
    cases h1
    cases h2
    exact .leaf fun A _ => eqAt_same r1 r2 rfl
  | .list ds, n, _, _, _, _, hn, h1, h2, r1, r2 => by
    obtain ⟨a, xs, rfl, sa, da⟩ := dx_lst h1 rfl
    obtain ⟨b, ys, rfl, sb, db⟩ := dx_lst h2 rfl
    cases r1
    cases r2
    by_cases e : a = b
    · subst e
      exact .same
    · cases n with
      | zero => exact absurd hn (Nat.not_succ_le_zero _)
      | succ m =>
        obtain ⟨us, v1, p1, _⟩ := I.list sa
        obtain ⟨ws, v2, p2, _⟩ := I.list sb
        have t := EqTree.lists (e := fun _ => true) e p1.isList p2.isList (by
          rw [List.size_toArray, List.size_toArray, ← v1.length, ← v2.length, da.len, db.len]) (fun j g1 g2 => by
          have := Dx.eqTAll I ds m (Nat.le_of_succ_le_succ hn) da db v1 v2 j (by simpa using g1) (by simpa using g2)
          simpa using this)
        rw [show ((List.range us.toArray.size).all fun _ => true) = true from List.all_eq_true.mpr fun _ _ => rfl] at t
        exact t
  | .tuple ds, n, _, _, _, _, hn, h1, h2, r1, r2 => by
    obtain ⟨a, xs, rfl, sa, da⟩ := dx_tup h1 rfl
    obtain ⟨b, ys, rfl, sb, db⟩ := dx_tup h2 rfl
    cases r1
    cases r2
    by_cases e : a = b
    · subst e
      exact .same
    · cases n with
      | zero => exact absurd hn (Nat.not_succ_le_zero _)
      | succ m =>
        obtain ⟨us, v1, p1, _⟩ := I.tuple sa
        obtain ⟨ws, v2, p2, _⟩ := I.tuple sb
        have t := EqTree.tuples (e := fun _ => true) e p1 p2 (fun j g1 g2 => by
          have := Dx.eqTAll I ds m (Nat.le_of_succ_le_succ hn) da db v1 v2 j (by simpa using g1) (by simpa using g2)
          simpa using this)
        have es : us.toArray.size = ws.toArray.size := by
          rw [List.size_toArray, List.size_toArray, ← v1.length, ← v2.length, da.len, db.len]
        rw [show ((List.range (min us.toArray.size ws.toArray.size)).all fun _ => true) = true from List.all_eq_true.mpr fun _ _ => rfl, es, beq_self_eq_true] at t
        exact t
  | .dict l, n, _, _, _, _, hn, h1, h2, r1, r2 => by
    obtain ⟨a, ka, rfl, sa, na, da, ea⟩ := dx_dic h1 rfl
    obtain ⟨b, kb, rfl, sb, nb, db, eb⟩ := dx_dic h2 rfl
    cases r1
    cases r2
    by_cases e : a = b
    · subst e
      exact .same
    · cases n with
      | zero => exact absurd hn (Nat.not_succ_le_zero _)
      | succ m =>
        have ek := keys_inj (ea.trans eb.symm)
        obtain ⟨_, ga, va, KA, DA⟩ := dk_rd I.hok sa
        obtain ⟨_, gb, vb, KB, DB⟩ := dk_rd I.hok sb
        have kk : va.map (·.1) = vb.map (·.1) := by rw [← KA.keys, ← KB.keys, ek]
        have nv : (vb.map (·.1)).Nodup := by rw [← KB.keys]; exact nb
        have vA : Vals (ka.map (·.2)) (va.map (·.2)) := kv_vals KA
        have vB : Vals (kb.map (·.2)) (vb.map (·.2)) := kv_vals KB
        have t := EqTree.dicts (e := fun _ => true) e ga gb DA DB (fun k v y hm hv => by
          obtain ⟨j, hj, ej⟩ := List.getElem_of_mem hm
          have hl : va.length = vb.length := by
            have := congrArg List.length kk
            rw [List.length_map, List.length_map] at this
            exact this
          have hj2 : j < vb.length := by omega
          have k1 : (va.map (·.1))[j]'(by rw [List.length_map]; exact hj) = k := by rw [List.getElem_map, ej]
          have k2 : vb[j].1 = k := by
            rw [← k1]
            simp only [kk, List.getElem_map]
          have q : valueAt vb k = some vb[j].2 := PySem.valueAt_of_mem nv (by rw [← k2]; exact List.getElem_mem hj2)
          rw [q] at hv
          injection hv with hv
          have := Dx.eqTKv I l m (Nat.le_of_succ_le_succ hn) da db vA vB j (by rw [List.length_map]; exact hj) (by rw [List.length_map]; exact hj2)
          rw [List.getElem_map, List.getElem_map, ej, hv] at this
          exact this)
        have hl : (va.length == vb.length) = true := by
          have := congrArg List.length kk
          rw [List.length_map, List.length_map] at this
          rw [this]
          exact beq_self_eq_true _
        have hall : (va.all fun p => (valueAt vb p.1).isSome && true) = true := List.all_eq_true.mpr fun p hp => by
          have : p.1 ∈ vb.map (·.1) := by
            rw [← kk]
            exact List.mem_map_of_mem hp
          rw [PySem.valueAt_isSome.mpr this]
          rfl
        rw [hl, hall] at t
        exact t
theorem Dx.eqTAll (I : L2.Inv X pins σ H s) : ∀ (ds : List PyData) (n : Nat) {xs ys : List V} {us ws : List Value}, PyData.depthAll ds ≤ n → DxAll X.K H xs ds → DxAll X.K H ys ds → Vals xs us → Vals ys ws → ∀ (j : Nat) (h1 : j < us.length) (h2 : j < ws.length), EqTree X.prog X.w s n us[j] ws[j] true
  | [], n, _, _, _, _, _, h1, h2, r1, r2, j, g, _ => by
    cases h1
    cases r1
    exact absurd g (Nat.not_lt_zero _)
  | d :: ds, n, _, _, _, _, hn, h1, h2, r1, r2, j, g1, g2 => by
    cases h1 with
    | cons a1 b1 =>
      cases h2 with
      | cons a2 b2 =>
        cases r1 with
        | cons c1 e1 =>
          cases r2 with
          | cons c2 e2 =>
            have hn : max d.depth (PyData.depthAll ds) ≤ n := hn
            cases j with
            | zero => exact Dx.eqT I d n (by omega) a1 a2 c1 c2
            | succ j => exact Dx.eqTAll I ds n (by omega) b1 b2 e1 e2 j (Nat.lt_of_succ_lt_succ g1) (Nat.lt_of_succ_lt_succ g2)
theorem Dx.eqTKv (I : L2.Inv X pins σ H s) : ∀ (l : List (PyData × PyData)) (n : Nat) {xs ys : List V} {us ws : List Value}, PyData.depthKv l ≤ n → DxAll X.K H xs (l.map (·.2)) → DxAll X.K H ys (l.map (·.2)) → Vals xs us → Vals ys ws → ∀ (j : Nat) (h1 : j < us.length) (h2 : j < ws.length), EqTree X.prog X.w s n us[j] ws[j] true
  | [], n, _, _, _, _, _, h1, h2, r1, r2, j, g, _ => by
    cases h1
    cases r1
    exact absurd g (Nat.not_lt_zero _)
  | (k, d) :: l, n, _, _, _, _, hn, h1, h2, r1, r2, j, g1, g2 => by
    cases h1 with
    | cons a1 b1 =>
      cases h2 with
      | cons a2 b2 =>
        cases r1 with
        | cons c1 e1 =>
          cases r2 with
          | cons c2 e2 =>
            have hn : max (max k.depth d.depth) (PyData.depthKv l) ≤ n := hn
            cases j with
            | zero => exact Dx.eqT I d n (by omega) a1 a2 c1 c2
            | succ j => exact Dx.eqTKv I l n (by omega) b1 b2 e1 e2 j (Nat.lt_of_succ_lt_succ g1) (Nat.lt_of_succ_lt_succ g2)
end
end
end Vf
namespace Vf
open PySem PySem.Spec PyProof.Rows L2
open PySem.W (EqTree EachIs AllAlike Sortable)
/-- x == y, both lists, both tuples or both dicts, of the same data -/
def rEqX (K : PySem.W.Frag) (f : Bool → Bool) : R2 := fun x y H Q => ∃ a b d, x = .ref a ∧ y = .ref b ∧ Dx K H x d ∧ Dx K H y d ∧ d.depth ≤ 60 ∧ Q (.bl (f true)) H
theorem op_eqX {X : Cx} (hu : X.A.units + 64 < cLine) : OpR X (compareOp .Eq) (rEqX X.K id) := by
  rintro pins s σ H x y u v Q I rx ry ⟨a, b, d, rfl, rfl, hx, hy, dp, q⟩
  cases rx
  cases ry
  have fin : EP X pins σ Q (.bool true) s := ⟨.bl true, H, I, rfl, q⟩
  cases d with
  | none => cases hx
  | bool _ => cases hx
  | int _ => cases hx
  | str _ => cases hx
  | list ds =>
    obtain ⟨a', xs, e1, sa, da⟩ := dx_lst hx rfl
    obtain ⟨b', ys, e2, sb, db⟩ := dx_lst hy rfl
    cases e1
    cases e2
    obtain ⟨us, v1, p1, _⟩ := I.list sa
    obtain ⟨ws, v2, p2, _⟩ := I.list sb
    refine PySem.W.eq_listsT (n := 60) (e := fun _ => true) p1.isList p2.isList (by
      rw [List.size_toArray, List.size_toArray, ← v1.length, ← v2.length, da.len, db.len]) (fun j g1 g2 => by
      have := Dx.eqTAll I ds 60 (by have dp : PyData.depthAll ds + 1 ≤ 60 := dp; omega) da db v1 v2 j (by simpa using g1) (by simpa using g2)
      simpa using this) (by omega) ?_
    rw [show ((List.range us.toArray.size).all fun _ => true) = true from List.all_eq_true.mpr fun _ _ => rfl]
    exact fin
  | tuple ds =>
    obtain ⟨a', xs, e1, sa, da⟩ := dx_tup hx rfl
    obtain ⟨b', ys, e2, sb, db⟩ := dx_tup hy rfl
    cases e1
    cases e2
    obtain ⟨us, v1, p1, _⟩ := I.tuple sa
    obtain ⟨ws, v2, p2, _⟩ := I.tuple sb
    refine PySem.W.eq_tuplesT (n := 60) (e := fun _ => true) p1 p2 (fun j g1 g2 => by
      have := Dx.eqTAll I ds 60 (by have dp : PyData.depthAll ds + 1 ≤ 60 := dp; omega) da db v1 v2 j (by simpa using g1) (by simpa using g2)
      simpa using this) (by omega) ?_
    have es : us.toArray.size = ws.toArray.size := by
      rw [List.size_toArray, List.size_toArray, ← v1.length, ← v2.length, da.len, db.len]
    rw [show ((List.range (min us.toArray.size ws.toArray.size)).all fun _ => true) = true from List.all_eq_true.mpr fun _ _ => rfl, es, beq_self_eq_true]
    exact fin
  | dict l =>
    by_cases e : a = b
    · subst e
      have t := Dx.eqT I (.dict l) 61 (by omega) hx hy rfl rfl
      obtain ⟨a', ka, e1, sa, na, da, ea⟩ := dx_dic hx rfl
      cases e1
      obtain ⟨_, ga, va, KA, DA⟩ := dk_rd I.hok sa
      have nv : (va.map (·.1)).Nodup := by rw [← KA.keys]; exact na
      refine PySem.W.eq_dictsT (n := 60) (e := fun _ => true) ga ga DA DA (fun k v y hm hv => ?_) (by omega) ?_
      · rw [PySem.valueAt_of_mem nv hm] at hv
        cases hv
        exact .same
      · have hall : (va.all fun p => (valueAt va p.1).isSome && true) = true := List.all_eq_true.mpr fun p hp => by
          rw [PySem.valueAt_isSome.mpr (List.mem_map_of_mem hp)]
          rfl
        rw [hall, beq_self_eq_true]
        exact fin
    · obtain ⟨a', ka, e1, sa, na, da, ea⟩ := dx_dic hx rfl
      obtain ⟨b', kb, e2, sb, nb, db, eb⟩ := dx_dic hy rfl
      cases e1
      cases e2
      have ek := keys_inj (ea.trans eb.symm)
      obtain ⟨_, ga, va, KA, DA⟩ := dk_rd I.hok sa
      obtain ⟨_, gb, vb, KB, DB⟩ := dk_rd I.hok sb
      have kk : va.map (·.1) = vb.map (·.1) := by rw [← KA.keys, ← KB.keys, ek]
      have nv : (vb.map (·.1)).Nodup := by rw [← KB.keys]; exact nb
      have vA : Vals (ka.map (·.2)) (va.map (·.2)) := kv_vals KA
      have vB : Vals (kb.map (·.2)) (vb.map (·.2)) := kv_vals KB
      refine PySem.W.eq_dictsT (n := 60) (e := fun _ => true) ga gb DA DB (fun k v y hm hv => ?_) (by omega) ?_
      · obtain ⟨j, hj, ej⟩ := List.getElem_of_mem hm
        have hl : va.length = vb.length := by
          have := congrArg List.length kk
          rw [List.length_map, List.length_map] at this
          exact this
        have hj2 : j < vb.length := by omega
        have k1 : (va.map (·.1))[j]'(by rw [List.length_map]; exact hj) = k := by rw [List.getElem_map, ej]
        have k2 : vb[j].1 = k := by
          rw [← k1]
          simp only [kk, List.getElem_map]
        have q : valueAt vb k = some vb[j].2 := PySem.valueAt_of_mem nv (by rw [← k2]; exact List.getElem_mem hj2)
        rw [q] at hv
        injection hv with hv
        have := Dx.eqTKv I l 60 (by have dp : PyData.depthKv l + 1 ≤ 60 := dp; omega) da db vA vB j (by rw [List.length_map]; exact hj) (by rw [List.length_map]; exact hj2)
        rw [List.getElem_map, List.getElem_map, ej, hv] at this
        exact this
      · have hl : (va.length == vb.length) = true := by
          have := congrArg List.length kk
          rw [List.length_map, List.length_map] at this
          rw [this]
          exact beq_self_eq_true _
        have hall : (va.all fun p => (valueAt vb p.1).isSome && true) = true := List.all_eq_true.mpr fun p hp => by
          rw [PySem.valueAt_isSome.mpr (by rw [← kk]; exact List.mem_map_of_mem hp)]
          rfl
        rw [hl, hall]
        exact fin
/-! ### sizes -/
mutual
/-- data whose ints and texts may be shown -/
def tmx : PyData → Bool
  | .none => true
  | .bool _ => true
  | .int i => decide (i.natAbs < 10 ^ 60)
  | .str x => x.cps.all (· < 0x110000)
  | .list xs => tmxAll xs
  | .tuple xs => tmxAll xs
  | .dict l => tmxKv l
def tmxAll : List PyData → Bool
  | [] => true
  | x :: r => tmx x && tmxAll r
def tmxKv : List (PyData × PyData) → Bool
  | [] => true
  | (k, v) :: r => tmx k && (tmx v && tmxKv r)
end
mutual
/-- no less than the length of what is shown -/
def wtx : PyData → Nat
  | .none => 4
  | .bool _ => 5
  | .int _ => 62
  | .str x => 10 * x.length + 2
  | .list xs => wtxAll xs + 4
  | .tuple xs => wtxAll xs + 4
  | .dict l => wtxKv l + 4
def wtxAll : List PyData → Nat
  | [] => 0
  | x :: r => wtx x + 2 + wtxAll r
def wtxKv : List (PyData × PyData) → Nat
  | [] => 0
  | (k, v) :: r => wtx k + wtx v + 4 + wtxKv r
end
theorem dictText_le (ts : List Str) : (dictText ts).length ≤ piled ts + 2 := by
  unfold dictText
  rw [Str.length_append, Str.length_append]
  have e1 : (("{" : Str)).length = 1 := rfl
  have e2 : (("}" : Str)).length = 1 := rfl
  have e3 : (Str.join ", " ts).length ≤ piled ts := by
    by_cases h : ts = []
    · subst h
      exact Nat.le_refl _
    · have := join_length_add ts h
      omega
  rw [e1, e2]
  omega
mutual
theorem shownx_le : ∀ d : PyData, tmx d = true → d.shown.length ≤ wtx d
  | .none, _ => Nat.le_refl _
  | .bool b, _ => by
    cases b
    · exact Nat.le_refl _
    · exact Nat.le_succ 4
  | .int i, h => by
    have h' : i.natAbs < 10 ^ 60 := of_decide_eq_true h
    have e : (Str.ofString (toString i)).length = (toString i).length := PySem.ofString_length _
    have : (Str.ofString (toString i)).length ≤ 60 + 1 := by
      rw [e]
      exact int_text_length_le10 (by decide) h'
    exact Nat.le_trans this (by show 60 + 1 ≤ 62; decide)
  | .str x, h => by
    refine Nat.le_trans (StrLaws.reprText_len x ?_) (Nat.le_refl _)
    intro c hc
    have h' : x.cps.all (· < 0x110000) = true := h
    rw [← Array.all_toList, List.all_eq_true] at h'
    have := of_decide_eq_true (h' c hc)
    omega
  | .list xs, h => by
    have := shownxAll_le xs h
    have := listText_le (PyData.shownAll xs)
    show (listText (PyData.shownAll xs)).length ≤ wtxAll xs + 4
    omega
  | .tuple xs, h => by
    have := shownxAll_le xs h
    have := tupleText_le (PyData.shownAll xs)
    show (tupleText (PyData.shownAll xs)).length ≤ wtxAll xs + 4
    omega
  | .dict l, h => by
    have := shownxKv_le l h
    have := dictText_le (PyData.shownKv l)
    show (dictText (PyData.shownKv l)).length ≤ wtxKv l + 4
    omega
theorem shownxAll_le : ∀ xs : List PyData, tmxAll xs = true → piled (PyData.shownAll xs) ≤ wtxAll xs
  | [], _ => Nat.le_refl _
  | x :: r, h => by
    have h' : (tmx x && tmxAll r) = true := h
    rw [Bool.and_eq_true] at h'
    have := shownx_le x h'.1
    have := shownxAll_le r h'.2
    show piled (x.shown :: PyData.shownAll r) ≤ wtx x + 2 + wtxAll r
    rw [piled_cons]
    omega
theorem shownxKv_le : ∀ l : List (PyData × PyData), tmxKv l = true → piled (PyData.shownKv l) ≤ wtxKv l
  | [], _ => Nat.le_refl _
  | (k, v) :: r, h => by
    have h' : (tmx k && (tmx v && tmxKv r)) = true := h
    rw [Bool.and_eq_true, Bool.and_eq_true] at h'
    have := shownx_le k h'.1
    have := shownx_le v h'.2.1
    have := shownxKv_le r h'.2.2
    show piled ((k.shown ++ ": " ++ v.shown) :: PyData.shownKv r) ≤ wtx k + wtx v + 4 + wtxKv r
    rw [piled_cons, Str.length_append, Str.length_append]
    have e1 : ((": " : Str)).length = 2 := rfl
    rw [e1]
    omega
end
mutual
theorem tmx_ok : ∀ d : PyData, tmx d = true → d.showable = true
  | .none, _ => rfl
  | .bool b, _ => rfl
  | .int i, h => by
    have h' : i.natAbs < 10 ^ 60 := of_decide_eq_true h
    show decide (i.natAbs.log2 < 1920) = true
    refine decide_eq_true ?_
    by_cases h0 : i.natAbs = 0
    · rw [h0]
      decide
    · exact (Nat.log2_lt h0).mpr (Nat.lt_trans h' (by decide +kernel))
  | .str x, h => rfl
  | .list xs, h => tmxAll_ok xs h
  | .tuple xs, h => tmxAll_ok xs h
  | .dict l, h => tmxKv_ok l h
theorem tmxAll_ok : ∀ xs : List PyData, tmxAll xs = true → PyData.showableAll xs = true
  | [], _ => rfl
  | x :: r, h => by
    have h' : (tmx x && tmxAll r) = true := h
    rw [Bool.and_eq_true] at h'
    show (PyData.showable x && PyData.showableAll r) = true
    rw [tmx_ok x h'.1, tmxAll_ok r h'.2] <;> rfl
theorem tmxKv_ok : ∀ l : List (PyData × PyData), tmxKv l = true → PyData.showableKv l = true
  | [], _ => rfl
  | (k, v) :: r, h => by
    have h' : (tmx k && (tmx v && tmxKv r)) = true := h
    rw [Bool.and_eq_true, Bool.and_eq_true] at h'
    show (PyData.showable k && PyData.showable v && PyData.showableKv r) = true
    rw [tmx_ok k h'.1, tmx_ok v h'.2.1, tmxKv_ok r h'.2.2] <;> rfl
end
/-- data of a size that may be shown -/
structure OkX (d : PyData) : Prop where
  tm : tmx d = true
  dp : d.depth ≤ 60
  sz : wtx d ≤ 16000000
theorem OkX.show {d : PyData} (h : OkX d) : d.shown.length ≤ sizeLine := Nat.le_trans (shownx_le d h.tm) (Nat.le_trans h.sz (by decide))
/-- two things alike -/
def spAlikeX (K : PySem.W.Frag) : Sp := fun vs H Q _ => ∃ (a b : Addr) (d : PyData), vs = [.ref a, .ref b] ∧ Dx K H (.ref a) d ∧ Dx K H (.ref b) d ∧ OkX d ∧ ∀ H', Same H H' → Q (.bl true) H'
/-- repr of a list, a tuple or a dict -/
def rReprO (K : PySem.W.Frag) : List V → Hp → VK → Prop := fun xs H Q => ∃ (p : Addr) (d : PyData), xs = [.ref p] ∧ Dx K H (.ref p) d ∧ OkX d ∧ Q (.str d.shown) H
theorem call_reprO {X : Cx} (hu : X.A.units + 65 < cLine) (gd : X.A.guards = some []) (sb : ∃ o, X.base.get? sysModules = some o ∧ o.cls = .type "dict") : CallR X (.builtin "repr") (rReprO X.K) := by
  rintro pins s σ H xs us Q I hv ⟨p, d, rfl, hd, ok, k⟩
  exact call_reprX hu gd pins s σ H [.ref p] us Q I hv ⟨p, d, rfl, hd, tmx_ok d ok.tm, ok.dp, ok.show, sb, k⟩
mutual
/-- what holds of data without dicts -/
theorem tmx_of : ∀ d : PyData, tame d = true → tmx d = true ∧ wtx d ≤ 2 * wt d
  | .none, _ => ⟨rfl, by decide⟩
  | .bool b, _ => ⟨rfl, by show 5 ≤ 2 * 5; decide⟩
  | .int i, h => by
    have h' : i.natAbs < 10 ^ 30 := of_decide_eq_true h
    exact ⟨decide_eq_true (Nat.lt_trans h' (by decide +kernel)), by show 62 ≤ 2 * 32; decide⟩
  | .str x, h => ⟨h, by show 10 * x.length + 2 ≤ 2 * (10 * x.length + 2); omega⟩
  | .list xs, h => by
    obtain ⟨a, b⟩ := tmxAll_of xs h
    exact ⟨a, by show wtxAll xs + 4 ≤ 2 * (wtAll xs + 4); omega⟩
  | .tuple xs, h => by
    obtain ⟨a, b⟩ := tmxAll_of xs h
    exact ⟨a, by show wtxAll xs + 4 ≤ 2 * (wtAll xs + 4); omega⟩
  | .dict _, h => by cases h
theorem tmxAll_of : ∀ xs : List PyData, tameAll xs = true → tmxAll xs = true ∧ wtxAll xs ≤ 2 * wtAll xs
  | [], _ => ⟨rfl, Nat.le_refl _⟩
  | x :: r, h => by
    have h' : (tame x && tameAll r) = true := h
    rw [Bool.and_eq_true] at h'
    obtain ⟨a1, a2⟩ := tmx_of x h'.1
    obtain ⟨b1, b2⟩ := tmxAll_of r h'.2
    refine ⟨?_, ?_⟩
    · show (tmx x && tmxAll r) = true
      rw [a1, b1] <;> rfl
    · show wtx x + 2 + wtxAll r ≤ 2 * (wt x + 2 + wtAll r)
      omega
end
/-! ### sorted -/
theorem each_of_vals {R : V → PyData → Prop} : ∀ {xs : List V} {us : List Value} {ds : List PyData}, Vals xs us → Paired R xs ds → EachIs (fun u d => ∃ x, L2.RelV x u ∧ R x d) us ds
  | _, _, _, .nil, h => by
    cases h
    exact .nil
  | _, _, _, .cons a b, h => by
    cases h with
    | cons p q => exact .cons ⟨_, a, p⟩ (each_of_vals b q)
theorem vals_of_each {R : V → PyData → Prop} : ∀ {us : List Value} {ds : List PyData}, EachIs (fun u d => ∃ x, L2.RelV x u ∧ R x d) us ds → ∃ xs, Vals xs us ∧ Paired R xs ds
  | _, _, .nil => ⟨[], .nil, .nil⟩
  | _, _, .cons ⟨x, a, p⟩ r => by
    obtain ⟨xs, b, q⟩ := vals_of_each r
    exact ⟨x :: xs, .cons a b, .cons p q⟩
/-- data, ascending -/
noncomputable def srtD (ds : List PyData) : List PyData := ds.mergeSort (PySem.W.dataLe false id)
theorem srtD_perm (ds : List PyData) : (srtD ds).Perm ds := List.mergeSort_perm _ _
theorem call_sortedX {X : Cx} (hu : X.A.units + 70 < cLine) : CallR X (.builtin "sorted") (fun vs H Q => ∃ (a : Addr) (xs : List V) (ds : List PyData) (R : V → PyData → Prop), vs = [.ref a] ∧ SqL X.K H a xs ∧ Paired R xs ds ∧ (∀ x d, R x d → Dx X.K H x d) ∧ AllAlike ds ∧ Sortable ds ∧ (∀ d ∈ ds, d.depth ≤ 60) ∧
    ∀ (ys : List V) (p : Addr), Paired R ys (srtD ds) → H p = none → Q (.ref p) (upd H p (.lst ys))) := by
  rintro pins s σ H vs us Q I r ⟨a, xs, ds, R, rfl, hs, hp, hR, hal, hk, hd, q⟩
  obtain ⟨its, rv, hl, hz⟩ := I.list hs
  obtain ⟨u, rfl, ru⟩ := vals1 r
  obtain rfl : u = Value.ref a := ru
  have e := each_of_vals rv hp
  have em : (ds.map id) = ds := List.map_id ds
  have er : EachIs (fun v b => ∃ as, Reads s.heap v (id b) as) its ds := e.mono fun u d hh => by
    obtain ⟨x, rx, h⟩ := hh
    obtain ⟨as, ha, _⟩ := (hR x d h).reads I rx
    exact ⟨as, ha⟩
  have ld := Paired.length hp
  refine PySem.W.sorted_data (enc := id) (bs := ds) hl.isList e er (by rw [em]; exact hal) (by rw [em]; exact hk) (by omega) (fun d hm => by
    have := hd d hm
    show X.A.units + 2 + d.depth < cLine
    omega) fun out lo eo => ?_
  obtain ⟨ys, vy, py⟩ := vals_of_each eo
  obtain ⟨ep, he'⟩ := PyProof.Rows.sortedAll_at s.heap its out.toArray
  have ly : ys.length = xs.length := by
    have := vy.length
    omega
  exact ⟨.ref _, upd H (s.heap.objs.size + 1) (.lst ys), I.laid (t' := s.toks) (fun _ _ => PyProof.Rows.sortedAll_old) (Nat.le_succ _) ⟨by omega, out, ep, vy, he'⟩, rfl, q ys _ py (I.hok.fresh (Nat.le_succ _))⟩
end Vf
namespace Vf
open PySem PySem.Spec PyProof.Rows L2
/-! ### a name set to a dict comprehension on one line -/
theorem ps_setDc {X : Cx} {j : Nat} {z : Str} {pz : Pos} {kx vx tg it : Expr} {tests : List Expr} {sco : Scope} {ow : List (Str × Nat)} {p1 p2 : Pos} {wi : TI} {g : TG} {tt : TT} {tk tv : TE} (calm : X.calm = true) (nd : X.N.Nodup) (hj : X.N[j]? = some z) (hz : X.env.scope.names.lookup z = some .local)
    (sw : swapsWith (.DictComp kx vx [⟨tg, it, tests, 0⟩] sco p1) (some (.Name z pz)) p2.line X.env = pure true) (wit : PI X tg it wi) (blk : BlkOk X.N X.env.scope sco ow)
    (ptg : ∀ (t : Shared) (G : Hp) (B : Addr) (cs : List (Str × Addr)) (pp : List Addr), PG (X.blk t G sco (compEnvC sco cs B X.env) pp) tg g) (pte : ∀ (t : Shared) (G : Hp) (B : Addr) (cs : List (Str × Addr)) (pp : List Addr), PTs (X.blk t G sco (compEnvC sco cs B X.env) pp) tests tt)
    (pkx : ∀ (t : Shared) (G : Hp) (B : Addr) (cs : List (Str × Addr)) (pp : List Addr), PE (X.blk t G sco (compEnvC sco cs B X.env) pp) kx tk) (pvx : ∀ (t : Shared) (G : Hp) (B : Addr) (cs : List (Str × Addr)) (pp : List Addr), PE (X.blk t G sco (compEnvC sco cs B X.env) pp) vx tv)
    (fs : ∀ x, foldedSetIterable it X.env x = pure x := by intro _; rfl) :
    PS X (.Assign [.Name z pz] (.DictComp kx vx [⟨tg, it, tests, 0⟩] sco p1) p2) (tAsg (tDc wi g tt tk tv (ow.map (·.2))) (gName j)) := by
  refine ⟨fun pins s σ H D I w => ?_⟩
  rw [exec_Assign_Name_used _ _ _ _ sw]
  refine wpAny_bind (wpAny_standAt (wpAny_bind ?_))
  have w' : tDc wi g tt tk tv (ow.map (·.2)) σ H (fun x H1 => gName j x σ H1 D.nx) := w
  refine wpAny_bind (thn (dc_core (Qf := fun _ u => SP X pins D .next u) (use := some (assign (.Name z pz) X.env)) calm nd I wit blk ptg pte pkx pvx fs w' fun L C u m H' I' q hn f => ?_) fun _ u hq => wpAny_pure (wpAny_pure hq))
  show wpAny _ _ (assign (.Name z pz) X.env (.ref L)) _ _ _
  refine wpAny_assign_Name (store_ok2 (v := V.ref L) I' nd hj (.inl hz) rfl (fun u2 I2 ⟨a, sb, ha⟩ => ?_) (.inr hz))
  obtain ⟨g0, g1, g2, g3, g4, g5⟩ := f
  have ne : C ≠ a := ha.elim (fun e => by rw [e]; exact g1) fun e h => g4 z a e h.symm
  exact ⟨m, hn.sameBut sb ne, fun h3 sb3 => ⟨_, H', I2.turned (t' := u2.toks) (fun b o hb e => (sb3.2 b hb).trans e) g0 g1 g3 g4 g5, q⟩⟩
theorem swd_true {kx vx : Expr} {gs : List Comprehension} {sco : Scope} {p1 pz : Pos} {z : Str} {n : Nat} {env : Env} (kd : env.scope.kind = .function) (hz : env.scope.names.lookup z = some .local) (ln : (pz.line == p1.line) = true)
    (no : (sco.names.any fun q => q.1 == z && (q.2 == .local || q.2 == .cell)) = false) : swapsWith (.DictComp kx vx gs sco p1) (some (.Name z pz)) n env = pure true := by
  have e1 : env.kindOf z = some .local := hz
  have e2 : env.blockKind = .function := by
    unfold Env.blockKind
    rw [kd] <;> rfl
  have e3 : (sco.names.any fun (x, k) => x == z && (k == .local || k == .cell)) = false := no
  unfold swapsWith
  simp only [e2, e1, e3, Expr.pos, ln]
  rfl
end Vf

set_option Elab.async false
set_option linter.all false
set_option maxRecDepth 100000
set_option maxHeartbeats 4000000
/-! Errors as values: made, asked for their classes, their fields read. -/
namespace Vf
open PySem PySem.Spec PyProof.Rows L2
/-- at a: an error of the class at C, not raised; fs: its fields -/
def ErA (H : Hp) (a C : Addr) (fs : List (Str × V)) : Prop := (fs = [] ∧ H a = some (exo a C none)) ∨ ∃ d, H a = some (exo a C (some d)) ∧ H d = some (exd d fs)
theorem ErA.same {H H' : Hp} {a C : Addr} {fs : List (Str × V)} (e : Same H H') (h : ErA H a C fs) : ErA H' a C fs := by
  rcases h with ⟨h1, h2⟩ | ⟨d, h1, h2⟩
  · exact .inl ⟨h1, e _ _ h2⟩
  · exact .inr ⟨d, e _ _ h1, e _ _ h2⟩
section
variable {X : Cx} {pins : List (Addr × Obj)} {σ : L2.St} {H : Hp} {s : Shared} {a C : Addr} {fs : List (Str × V)}
theorem ErA.inst (I : L2.Inv X pins σ H s) (h : ErA H a C fs) : ∃ (ox : Obj) (od : Option Obj), PySem.W.InstAt s.heap a ox C od ∧
    ∀ (n : Str) (v : V), fs.lookup n = some v → ∃ (o : Obj) (u : Value), od = some o ∧ PySem.W.lookIn n o = some (some u) ∧ L2.RelV v u := by
  rcases h with ⟨h1, h2⟩ | ⟨d, h1, h2⟩
  · obtain ⟨t1, e⟩ := exo_at I.hok h2
    exact ⟨_, none, ⟨e, rfl, rfl, trivial⟩, fun n v q => by rw [h1] at q; cases q⟩
  · obtain ⟨t1, e⟩ := exo_at I.hok h1
    obtain ⟨mA, hns, hr⟩ := exd_at I.hok h2
    obtain ⟨o, ho, hl⟩ := lookIn_ns hns
    refine ⟨_, some o, ⟨e, rfl, rfl, ho⟩, fun n v q => ?_⟩
    obtain ⟨u, hu, ru⟩ := RelO.some_of (v := v) (o := mA n) (by rw [← q]; exact hr n)
    exact ⟨o, u, rfl, by rw [hl, hu], ru⟩
end
/-- isinstance of an error -/
def rIsO (K : PySem.W.Frag) : List V → Hp → VK → Prop := fun xs H Q => ∃ (a C : Addr) (fs : List (Str × V)) (c : V) (u : Value) (b : Bool), xs = [.ref a, c] ∧ ClsV c u ∧ ErA H a C fs ∧ ExcC K C ∧ PySem.W.kitOne K (.ref C) u = some b ∧ Q (.bl b) H
theorem call_isO {X : Cx} : CallR X (.builtin "isinstance") (rIsO X.K) := by
  intro pins s σ H xs us Q I r h
  obtain ⟨a, C, fs, c, u, b, rfl, k, er, E, e, q⟩ := h
  obtain ⟨u1, u2, rfl, r1, r2⟩ := vals2 r
  obtain rfl := k.eq r2
  cases r1
  obtain ⟨ox, od, J, _⟩ := er.inst I
  have Z : PySem.W.KitX X.K (.ref a) (.ref C) (fun h => PySem.W.InstAt h a ox C od) := PySem.W.kitx_exc (by
    obtain ⟨cd, hc, _⟩ := PySem.W.any_some E.hd
    rw [hc] <;> rfl) E.hg E.hk E.hs E.ha E.hn E.ht E.hm
  exact PySem.W.kia_one Z I.kIn J e (fun z => nomatch z) fun tk => ⟨.bl b, H, I.tok tk, rfl, q⟩
/-- the field of an error -/
def tErF (K : PySem.W.Frag) (f : Str) (te : TE) : TE := fun σ H Q => te σ H fun x H1 => ∃ (a C : Addr) (fs : List (Str × V)) (v : V), x = .ref a ∧ ErA H1 a C fs ∧ XfC K C ∧ PySem.W.findIn K (.ref C) f = some none ∧ fs.lookup f = some v ∧ Q v H1
theorem pe_erf {X : Cx} {e : Expr} {te : TE} {pos : Pos} {n : Str} (he : PE X e te) (hb : attributeBase e n X.env (eval e X.env) = eval e X.env := by rfl) : PE X (.Attribute e n pos) (tErF X.K n te) := by
  refine ⟨fun pins s σ H Q I h => attr_of hb (thn (he.run pins s σ H _ I h) fun u s1 hh => ?_)⟩
  obtain ⟨x, H1, I1, rx, a, C, fs, v, rfl, er, T, hno, l, q⟩ := hh
  cases rx
  obtain ⟨ox, od, J, F⟩ := er.inst I1
  obtain ⟨o, w, rfl, hl, rw'⟩ := F n v l
  exact HandSPX.exc_get I1.kIn J T.ga T.gg T.exC (PySem.W.findObj_own T.hdC hno rfl hl) (handed_of rw') ⟨v, H1, I1.tok _, rw', q⟩
/-- an error is made of one thing -/
def tErX (C : Addr) (fld : Str) (ta : TA) : TE := fun σ H Q => ta σ H fun vs H1 => ∃ v : V, vs = [v] ∧ ∀ (a : Addr) (H2 : Hp), H1 a = none → Same H1 H2 → ErA H2 a C [(fld, v)] → Q (.ref a) H2
theorem pe_errX {X : Cx} {x fld : Str} {C : Addr} {k : Nat} {e : Expr} {ta : TA} {p pos : Pos} (R : XcR X.prog X.w X.K X.mg X.base x fld C) (hr : Room k X.A) (h2 : 2 ≤ k) (ha : PA X [e] ta) (hg : Gl X x := by rfl)
    (hdb : (x == ("__debug__" : Str)) = false := by decide) (he : starEach (e :: []) X.env = (false, eval e X.env) :: starEach [] X.env := by rfl) (hpl : (backTo pos (starEach [] X.env)).any (·.1) = false := by rfl) :
    PE X (.Call (.Name x p) [e] [] pos) (tErX C fld ta) := by
  obtain ⟨fI, fd, T, F1, bnd⟩ := R.ex
  obtain ⟨nm, q, N, bs, bm, sn, sub, ab, col, dd, k0, k1, k2, k3, k5, hC, hbm⟩ := T.cl.cls
  refine ⟨fun pins s σ H Q I h => wpAny_Call_Name_kw (ld_glob I hg T.gl ?_ hdb)⟩
  refine PySem.W.callWith_K (h₀ := X.base) I.ok.mod.kin T.cl.kC (thn (ha.run pos pins s σ H _ I h) fun us s1 ⟨vs, H1, I1, r1, v, ev, qq⟩ => ⟨I1.kIn, ?_⟩) he hpl
  subst ev
  show wpAny _ _ (call (.ref C) us) _ _ _
  obtain ⟨hp, g, dr, tk, os⟩ := s1
  let a : Addr := hp.objs.size + 1
  have sz : hp.objs.size ≤ a := Nat.le_succ _
  have na : H1 a = none := I1.hok.fresh sz
  let hp2 : Heap := (hp.push (PySem.W.kdv_tup us)).push (PySem.HandSPX.excO C hp.objs.size)
  have kp : ∀ b o, hp.get? b = some o → hp2.get? b = some o := fun b o z => Heap.get?_push_of_some _ (Heap.get?_push_of_some _ z)
  have at2 : hp2.get? a = some (PySem.HandSPX.excO C hp.objs.size) := by
    show ((hp.push (PySem.W.kdv_tup us)).push (PySem.HandSPX.excO C hp.objs.size)).get? (hp.objs.size + 1) = _
    heap_get
  have J : L2.Inv X pins σ (upd H1 a (exo a C none)) ⟨hp2, g, dr, tk, os⟩ := I1.laid (t' := tk) (a := a) (o := exo a C none) (h' := hp2) kp sz (exo_ok at2)
  have r2 : Vals [V.ref a, v] (Value.ref a :: us) := .cons rfl r1
  have hl : (Value.ref a :: us).length = 2 := by rw [← r2.length] <;> rfl
  have one : us.length = 1 := by
    rw [List.length_cons] at hl
    omega
  refine wpAny_call (PySem.HandSPX.call_own F.excBase_ValueError (fun Y => PySem.HandSPX.refsVE_contains Y bm hbm) (I1.kIn _ _ hC) (PySem.W.looks_findIn I1.kIn T.ini) (fun self => PySem.W.bind_fn I1.kIn self T.fn) (by rw [one, sizeLine_eq] <;> decide)
    (codeAny_mono (F1.run _ X.stack _ _ ⟨Value.ref a :: us, []⟩ (Value.ref a :: us) [V.ref a, v] (fun u H2 => u = .non ∧ Same H1 H2 ∧ ErA H2 a C [(fld, v)]) (fun _ _ _ => False) ((hr.mono h2).make C us []) (J.env0.make C us [])
      (by
        have z := bnd _ (Value.ref a :: us) J.kIn (by rw [List.append_nil]; exact hl)
        rw [List.append_nil] at z
        exact z) r2 ?_) fun r s' hq' => ?_))
  · refine ⟨a, v, rfl, upd_same, fun d nd ne => ⟨rfl, fun b o hb => ?_, .inr ⟨d, upd_same, ?_⟩⟩⟩
    · rw [upd_ne ne] at nd
      rw [upd_ne (ne_of_none hb na), upd_ne (ne_of_none hb nd), upd_ne (ne_of_none hb na)]
      exact hb
    · rw [upd_ne ne, upd_same]
  · cases r with
    | error er => exact False.elim hq'
    | ok fl =>
      cases fl with
      | ret u =>
        obtain ⟨v2, H2, os2, bare2, un2, hok2, rv, ev, sm, ea⟩ := hq'
        subst ev
        cases rv
        exact ⟨rfl, .ref a, H2, J.call' (ch := []) os2 un2 hok2 bare2 (fun b z => absurd z (by simp)), rfl, qq a H2 na sm ea⟩
      | next => exact False.elim hq'
      | brk => exact False.elim hq'
      | cont => exact False.elim hq'
/-- a class of errors without an __init__ of its own -/
structure XcN (K : PySem.W.Frag) (mg : Str → Option Value) (x : Str) (C : Addr) (bm : List Value) (nw : String) : Prop where
  gl : mg x = some (.ref C)
  q : PySem.W.excIn K C bm nw = true
  kp : PySem.W.keepIn K (.ref C) = true
/-- an error is made of nothing -/
theorem pe_err0 {X : Cx} {x : Str} {C : Addr} {bmB : List Value} {B newId initId : String} {p pos : Pos} (F : ExcBaseFacts B newId initId bmB) (N : XcN X.K X.mg x C bmB newId) (hg : Gl X x := by rfl) (hdb : (x == ("__debug__" : Str)) = false := by decide) :
    PE X (.Call (.Name x p) [] [] pos) (fun σ H Q => ∀ a, H a = none → Q (.ref a) (upd H a (exo a C none))) := by
  refine ⟨fun pins s σ H Q I h => wpAny_Call_Name_kw (ld_glob I hg N.gl ?_ hdb)⟩
  refine PySem.W.callWith_K0 I.kIn N.kp ?_
  show wpAny _ _ (call (.ref C) []) _ _ _
  obtain ⟨bm, ns, nm, qn, bs, hdct, sn, sub, ab, col, dd, k0, k1, k2, k3, k5, mN, hC, hN, hni, T⟩ := exc_obj I.kIn N.q
  refine wpAny_call_exc_subT F T hC hN hni (fun h' a hm => ?_) (by show 0 ≤ sizeLine; rw [sizeLine_eq]; omega)
  have hn : H a = none := I.hok.gone hm.new
  obtain ⟨t, ht, _, _⟩ := hm.there
  exact ⟨.ref a, upd H a (exo a C none), I.laidN hm.keeps hm.new hn (exo_ok ht), rfl, h a hn⟩
end Vf
namespace Vf
open PySem PySem.Spec PyProof.Rows L2
section
variable {prog : Program} {w : World} {A : Around} {E : Value → Shared → Prop} {s : Shared}
theorem adj_rev (n : Nat) : Builtin.Slice.sliceAdjust none none (-1) (n : Int) = ((n : Int) - 1, -1) := rfl
theorem plc_rev (n : Nat) : Builtin.Slice.slicePlaces ((n : Int) - 1) (-1) (-1) = n := by
  unfold Builtin.Slice.slicePlaces
  rw [if_neg (by decide)]
  by_cases h : n = 0
  · subst h
    rfl
  · rw [if_pos (by omega)]
    show (((n : Int) - 1 - -1 - 1) / 1 + 1).toNat = n
    rw [Int.ediv_one]
    omega
theorem fm_congr {α β : Type} {f g : α → Option β} : ∀ {l : List α}, (∀ x ∈ l, f x = g x) → l.filterMap f = l.filterMap g
  | [], _ => rfl
  | x :: r, h => by
    have e := fm_congr (l := r) fun y hy => h y (List.mem_cons_of_mem _ hy)
    rw [List.filterMap_cons, List.filterMap_cons, h x List.mem_cons_self, e]
theorem pick_rev (xs : Array Value) : ((List.range xs.size).filterMap fun (m : Nat) => xs[(((xs.size : Int) - 1) + (m : Int) * (-1)).toNat]?) = xs.toList.reverse := by
  have e := PySem.W.krv_all xs
  have r := PySem.W.krv_range xs.size
  have z : xs.toList.reverse = ((List.range xs.size).map fun k => xs.size - 1 - k).filterMap (xs[·]?) := by
    rw [r, List.filterMap_reverse, e]
  rw [z, List.filterMap_map]
  refine fm_congr fun m hm => ?_
  have hm' := List.mem_range.mp hm
  have q : (((xs.size : Int) - 1) + (m : Int) * (-1)).toNat = xs.size - 1 - m := by omega
  rw [q]
  rfl
theorem applied_rev {sl : Addr} {vl vu vs : Value} {n : Nat} {Q : Int × Int × Nat → Shared → Prop} (hs : s.heap.IsSliceOf sl vl vu vs) (pl : IsPart vl none) (pu : IsPart vu none) (ps : IsPart vs (some (-1)))
    (h : Q ((n : Int) - 1, -1, n) s) : wpAny (model prog w) A (Builtin.Slice.sliceApplied (.ref sl) (pure (n : Int))) Q E s := by
  obtain ⟨o, e, c, d⟩ := hs
  unfold Builtin.Slice.sliceApplied Builtin.Slice.sliceFields
  refine wpAny_bind (wpAny_bind (wpAny_field e d (x := vl) rfl ?_))
  refine wpAny_bind (wpAny_field e d (x := vu) rfl (wpAny_bind (wpAny_field e d (x := vs) rfl (wpAny_pure ?_))))
  refine wpAny_bind (HT.slicePart_ ps ?_)
  show wpAny _ _ (if ((-1 : Int) == 0) = true then _ else _) _ _ s
  rw [if_neg (by decide)]
  refine wpAny_bind (HT.slicePart_ pl ?_)
  refine wpAny_bind (HT.slicePart_ pu (wpAny_bind (wpAny_pure ?_)))
  show wpAny _ _ (match Builtin.Slice.sliceAdjust none none (-1) (n : Int) with | (lo, hi) => pure (lo, (-1 : Int), Builtin.Slice.slicePlaces lo hi (-1))) _ _ s
  rw [adj_rev n]
  show wpAny _ _ (pure ((n : Int) - 1, (-1 : Int), Builtin.Slice.slicePlaces ((n : Int) - 1) (-1) (-1))) _ _ s
  rw [plc_rev]
  exact wpAny_pure h
theorem getItem_revT {t sl : Addr} {items : Array Value} {vl vu vs : Value} {Q : Value → Shared → Prop} (ht : IsTup s.heap t items) (hs : s.heap.IsSliceOf sl vl vu vs) (pl : IsPart vl none) (pu : IsPart vu none) (ps : IsPart vs (some (-1)))
    (h : Q (.ref s.heap.objs.size) { s with heap := s.heap.push { cls := .type "tuple", data := .seq items.toList.reverse.toArray } }) (hsz : items.size ≤ sizeLine) : wpAny (model prog w) A (getItem (.ref t) (.ref sl)) Q E s := by
  have fits : sizeOk (.seq items.toList.reverse.toArray) := by
    show items.toList.reverse.toArray.size ≤ sizeLine
    rw [List.size_toArray, List.length_reverse, Array.length_toList]
    exact hsz
  have ts : s.TypeIs (.ref sl) "slice" := by
    obtain ⟨o, e, c, _⟩ := id hs
    exact ⟨o, e, c⟩
  unfold getItem
  (try with_reducible refine wpAny_holding ?_); (first | refine wpAny_bind (wpAny_pure ?_) | skip)
  refine wpAny_bind (wpAny_sequenceKey ht.typeIs (by decide) (wpAny_bind ?_))
  refine wpAny_callSpecial?_slot (name := Str.ofString "__getitem__") ht.typeIs PyProof.Rows.slot_tuple_getitem ?_
  refine wpAny_call_entry PyProof.Rows.slot_tuple_getitem ht.typeIs entry_tuple_getitem ?_ (args_tuple_getitem _ _)
  refine (show wpAny _ _ (Builtin.Tuple.tupleItemsOf (Value.ref t) >>= _) _ _ s from ?_)
  refine wpAny_bind (tupleItemsOf_ ht (wpAny_bind (wpAny_typeOf ts ?_)))
  rw [if_pos (by decide)]
  refine wpAny_bind (applied_rev hs pl pu ps ?_)
  have no : ¬ ((((items.size : Int) - 1) == 0 && (-1 : Int) == 1 && items.size == items.size) = true) := by
    rw [show (((-1 : Int) == 1)) = false from rfl, Bool.and_false, Bool.false_and]
    exact Bool.false_ne_true
  show wpAny _ _ (if (((items.size : Int) - 1) == 0 && (-1 : Int) == 1 && items.size == items.size) = true then _ else _) _ _ s
  rw [if_neg no, pick_rev]
  first
    | exact wpAny_bind (m := Builtin.Tuple.tupleExact _) (wpAny_newObj_type (wpAny_pure ⟨_, rfl, wpAny_pure h⟩) fits)
    | exact wpAny_bind (m := Builtin.Tuple.tupleExact _) (wpAny_newObj_type (wpAny_bind (wpAny_pure (wpAny_pure ⟨_, rfl, wpAny_pure h⟩))) fits)
    | exact wpAny_bind (wpAny_bind (m := Builtin.Tuple.tupleExact _) (wpAny_newObj_type (wpAny_pure (wpAny_pure ⟨_, rfl, wpAny_pure h⟩)) fits))
    | exact wpAny_bind (wpAny_bind (m := Builtin.Tuple.tupleExact _) (wpAny_newObj_type (wpAny_pure ⟨_, rfl, wpAny_pure h⟩) fits))
end
/-! ### tuples cut, joined, turned: a tuple of these items comes out -/
def tRevT (K : PySem.W.Frag) (te : TE) : TE := fun σ H Q => te σ H fun x H1 => ∃ (a : Addr) (xs : List V), x = .ref a ∧ SqT K H1 a xs ∧ ∀ (r : Addr) (H2 : Hp), Same H1 H2 → SqT K H2 r xs.reverse → Q (.ref r) H2
theorem pe_revT {X : Cx} {e : Expr} {te : TE} {k : Nat} {p1 p2 p3 pos : Pos} (he : PE X e te) : PE X (.Subscript e (.Slice none none (some (.UnaryOp .USub (.Constant (.int 1) k p1) p2)) p3) pos) (tRevT X.K te) := by
  refine ⟨fun pins s τ G Q I h => Subscript_ (thn (he.run pins s τ G _ I h) fun u t ⟨v, G1, J, rv, a, xs, ev, hx, q⟩ => ?_)⟩
  subst ev
  cases rv
  have step : PO X (some (.UnaryOp .USub (.Constant (.int 1) k p1) p2)) (tPart (tUn (rU fun i => .int (-i)) (tC (.int 1)))) := po_some (pe_un un_neg pe_int)
  refine wpAny_Slice (thn (po_none.run pins t τ G1 (fun o F => o = none ∧ F = G1) J ⟨rfl, rfl⟩) fun a1 t1 ⟨oa, F1, J1, pa, ea, fa⟩ => ?_)
  subst ea fa
  refine thn (po_none.run pins t1 τ F1 (fun o F => o = none ∧ F = F1) J1 ⟨rfl, rfl⟩) fun b t2 ⟨ob, F2, J2, pb, eb, fb⟩ => ?_
  subst eb fb
  refine thn (step.run pins t2 τ F2 (fun o F => o = some (-1) ∧ F = F2) J2 ⟨1, rfl, -1, rfl, rfl, rfl⟩) fun c t3 ⟨oc, F3, J3, pc, ec, fc⟩ => ?_
  subst ec fc
  have J4 : Inv X pins τ F3 { t3 with heap := t3.heap.push { cls := .type "slice", data := .fields #[a1, b, c] } } := J3.kept (t' := t3.toks) fun b ob w => Heap.get?_push_of_some _ w
  obtain ⟨its, r, ht, hz⟩ := J4.tuple hx
  have hl := r.length
  show wpAny (model X.prog X.w) X.A (subscriptTail e (.Slice none none (some (.UnaryOp .USub (.Constant (.int 1) k p1) p2)) p3) (.ref a) (.ref t3.heap.objs.size)) (EP X pins τ Q) X.xe { t3 with heap := t3.heap.push { cls := .type "slice", data := .fields #[a1, b, c] } }
  refine tail_any (ops := [.ref a, .ref t3.heap.objs.size]) ht.typeIs PyProof.Rows.slot_tuple_getitem.lookup ?_ (by with_unfolding_all rfl)
  refine getItem_revT ht (Heap.IsSliceOf.new _ a1 b c) pa pb pc ?_ (by rw [List.size_toArray]; omega)
  have nw : F3 ({ t3 with heap := t3.heap.push { cls := .type "slice", data := .fields #[a1, b, c] } } : Shared).heap.objs.size = none := J4.hok.fresh (Nat.le_refl _)
  refine ⟨.ref _, _, J4.laid (t' := t3.toks) (o := .tup xs.reverse) (fun b ob q => Heap.get?_push_of_some _ q) (Nat.le_refl _) ?_, rfl, q _ _ (same_new nw) (.inl (.inl upd_same))⟩
  exact ⟨by rw [List.length_reverse]; exact hz, _, r.reverse, IsTup.new _ _⟩
theorem sl_tupU {X : Cx} : SlR X (fun x lo hi H Q => ∃ (a : Addr) (xs : List V), x = .ref a ∧ SqT X.K H a xs ∧ ∀ (r : Addr) (H2 : Hp), Same H H2 → SqT X.K H2 r (cutV xs lo hi) → Q (.ref r) H2) := by
  intro pins s σ H x v vl vu lo hi sl Q I rx hs pl pu h
  obtain ⟨a, xs, rfl, hx, q⟩ := h
  refine sl_tupA pins s σ H _ v vl vu lo hi sl Q I rx hs pl pu ⟨a, xs, rfl, hx, fun w => q a H (Same.refl H) ?_, fun _ p hp => q p _ (same_new hp) (.inl (.inl upd_same))⟩
  have e : cutV xs lo hi = xs := by
    unfold cutV
    rw [w.1, w.2, List.drop_zero, Nat.sub_zero, List.take_length]
  rw [e]
  exact hx
theorem op_catU {X : Cx} : OpR X (binaryOp .Add) (fun x y H Q => ∃ (a b : Addr) (xs ys : List V), x = .ref a ∧ y = .ref b ∧ SqT X.K H a xs ∧ SqT X.K H b ys ∧ xs.length + ys.length ≤ sizeLine ∧
    ∀ (r : Addr) (H2 : Hp), Same H H2 → SqT X.K H2 r (xs ++ ys) → Q (.ref r) H2) := by
  intro pins s σ H x y v u Q I rx ry h
  obtain ⟨a, b, xs, ys, rfl, rfl, ha, hb, hz, q⟩ := h
  refine op_catA pins s σ H _ _ v u Q I rx ry ⟨a, b, xs, ys, rfl, rfl, ha, hb, hz, fun e => ?_, fun _ e => ?_, fun _ _ p hp => q p _ (same_new hp) (.inl (.inl upd_same))⟩
  · subst e
    exact q b H (Same.refl H) hb
  · subst e
    exact q a H (Same.refl H) (by rw [List.append_nil]; exact ha)
/-- a tuple against the empty one -/
theorem op_eqE {X : Cx} (hu : X.A.units + 64 < cLine) : OpR X (compareOp .Eq) (fun x y H Q => ∃ (a b : Addr) (xs : List V), x = .ref a ∧ y = .ref b ∧ SqT X.K H a xs ∧ SqT X.K H b [] ∧ Q (.bl (decide (xs = []))) H) := by
  intro pins s σ H x y v u Q I rx ry h
  obtain ⟨a, b, xs, rfl, rfl, ha, hb, q⟩ := h
  cases rx
  cases ry
  obtain ⟨its, r1, p1, _⟩ := I.tuple ha
  obtain ⟨its2, r2, p2, _⟩ := I.tuple hb
  cases r2
  refine PySem.W.eq_tuplesT (n := 60) (e := fun _ => true) p1 p2 (fun j g1 g2 => absurd g2 (by simp)) (by omega) ?_
  refine ⟨.bl (decide (xs = [])), H, I, ?_, q⟩
  show Value.bool _ = Value.bool _
  congr 1
  cases xs with
  | nil =>
    cases r1
    rfl
  | cons x r =>
    cases r1
    simp
end Vf
namespace Vf
open PySem PySem.Spec PyProof.Rows L2
/-! ### data with dicts that doesn't touch one place -/
def hid (b : Addr) (H : Hp) : Hp := fun a => if a = b then none else H a
theorem hid_ne {b a : Addr} {H : Hp} (h : a ≠ b) : hid b H a = H a := if_neg h
theorem hid_same (b : Addr) (H : Hp) : Same (hid b H) H := fun a u e => by
  unfold hid at e
  split at e
  · cases e
  · exact e
section
variable {K : PySem.W.Frag} {H H' : Hp}
theorem same_rd (e : Same H H') {a : Addr} {u : HO} (h : Rd H a u) : Rd H' a u := h.elim (fun h => .inl (e _ _ h)) fun ⟨o, h⟩ => .inr ⟨o, e _ _ h⟩
mutual
theorem Dx.same (e : Same H H') : ∀ {v : V} {d : PyData}, Dx K H v d → Dx K H' v d
  | _, _, .non => .non
  | _, _, .bl b => .bl b
  | _, _, .int i => .int i
  | _, _, .str x => .str x
  | _, _, .lst h a => .lst (e.seq h) (DxAll.same e a)
  | _, _, .tup h a => .tup (sameT e h) (DxAll.same e a)
  | _, _, .dic h n a => .dic (same_rd e h) n (DxAll.same e a)
theorem DxAll.same (e : Same H H') : ∀ {vs : List V} {ds : List PyData}, DxAll K H vs ds → DxAll K H' vs ds
  | _, _, .nil => .nil
  | _, _, .cons a b => .cons (Dx.same e a) (DxAll.same e b)
end
/-- the type of data -/
def tyD : PyData → String
  | .none => "NoneType"
  | .bool _ => "bool"
  | .int _ => "int"
  | .str _ => "str"
  | .list _ => "list"
  | .tuple _ => "tuple"
  | .dict _ => "dict"
theorem Dx.ty {v : V} {d : PyData} (h : Dx K H v d) : TyX K H v (.type (tyD d)) := by
  cases h with
  | non => exact .base .non
  | bl b => exact .base (.bl b)
  | int i => exact .base (.int i)
  | str x => exact .base (.str x)
  | lst h _ =>
    rcases h with (h | ⟨o, h⟩) | ⟨o, its, n, h, c, _⟩
    · exact .base (.lst h)
    · exact .base (.frz h)
    · exact .kList h c
  | tup h _ =>
    rcases h with (h | ⟨o, h⟩) | ⟨o, its, n, h, c, _⟩
    · exact .base (.tup h)
    · exact .fTuple h
    · exact .kTuple h c
  | dic h _ _ =>
    rcases h with h | ⟨o, h⟩
    · exact .base (.dK h)
    · exact .fDict h
theorem kit_strD (K : PySem.W.Frag) (d : PyData) : PySem.W.kitOne K (.type (tyD d)) (.type "str") = some (decide (tyD d = "str")) := by
  cases d <;> rfl
theorem kit_tupD (K : PySem.W.Frag) (d : PyData) : PySem.W.kitOne K (.type (tyD d)) (.type "tuple") = some (decide (tyD d = "tuple")) := by
  cases d <;> rfl
end
/-- data that doesn't touch what lies at b -/
def DX (K : PySem.W.Frag) (b : Addr) (H : Hp) (v : V) (d : PyData) : Prop := Dx K (hid b H) v d
section
variable {K : PySem.W.Frag} {b : Addr} {H H' : Hp} {v : V} {d : PyData}
theorem DX.dx (h : DX K b H v d) : Dx K H v d := Dx.same (hid_same b H) h
theorem hid_fr (f : Fr b H H') : Same (hid b H) (hid b H') := fun a u e => by
  by_cases n : a = b
  · rw [n] at e
    unfold hid at e
    rw [if_pos rfl] at e
    cases e
  · rw [hid_ne n] at e ⊢
    exact f _ _ n e
theorem DX.fr (f : Fr b H H') (h : DX K b H v d) : DX K b H' v d := Dx.same (hid_fr f) h
theorem DX.up {p : Addr} {o : HO} (n : H p = none) (h : DX K b H v d) : DX K b (upd H p o) v d := h.fr ((Fr.refl b H).new n)
theorem hid_new {p : Addr} {o : HO} (n : p ≠ b) : hid b (upd H p o) p = some o := by rw [hid_ne n, upd_same]
theorem hid_up {p : Addr} {o : HO} (n : H p = none) : Same (hid b H) (hid b (upd H p o)) := hid_fr ((Fr.refl b H).new n)
theorem DX.newT {p : Addr} {xs : List V} {ds : List PyData} (hp : H p = none) (n : p ≠ b) (h : DxAll K (hid b H) xs ds) : DX K b (upd H p (.tup xs)) (.ref p) (.tuple ds) :=
  .tup (.inl (.inl (hid_new n))) (DxAll.same (hid_up hp) h)
theorem DX.newL {p : Addr} {xs : List V} {ds : List PyData} (hp : H p = none) (n : p ≠ b) (h : DxAll K (hid b H) xs ds) : DX K b (upd H p (.lst xs)) (.ref p) (.list ds) :=
  .lst (.inl (.inl (hid_new n))) (DxAll.same (hid_up hp) h)
theorem DX.newD {p : Addr} {kvs : List (Key × V)} {ds : List PyData} (hp : H p = none) (n : p ≠ b) (nd : (kvs.map (·.1)).Nodup) (h : DxAll K (hid b H) (kvs.map (·.2)) ds) : DX K b (upd H p (.dK kvs)) (.ref p) (.dict ((kvs.map fun q => keyD q.1).zip ds)) :=
  .dic (.inl (hid_new n)) nd (DxAll.same (hid_up hp) h)
end
/-! ### sizes -/
structure SzX (n M : Nat) (d : PyData) : Prop where
  tm : tmx d = true
  dp : d.depth ≤ n
  wz : wtx d ≤ M
structure SzL (n M : Nat) (ds : List PyData) : Prop where
  tm : tmxAll ds = true
  dp : PyData.depthAll ds ≤ n
  wz : wtxAll ds ≤ M
theorem SzX.mono {n M n' M' : Nat} {d : PyData} (h : SzX n M d) (a : n ≤ n') (b : M ≤ M') : SzX n' M' d := ⟨h.tm, Nat.le_trans h.dp a, Nat.le_trans h.wz b⟩
theorem SzL.mono {n M n' M' : Nat} {ds : List PyData} (h : SzL n M ds) (a : n ≤ n') (b : M ≤ M') : SzL n' M' ds := ⟨h.tm, Nat.le_trans h.dp a, Nat.le_trans h.wz b⟩
theorem SzL.nil {n M : Nat} : SzL n M [] := ⟨rfl, Nat.zero_le _, Nat.zero_le _⟩
theorem SzL.cons {n M M' : Nat} {d : PyData} {ds : List PyData} (a : SzX n M d) (b : SzL n M' ds) : SzL n (M + 2 + M') (d :: ds) :=
  ⟨by show (tmx d && tmxAll ds) = true; rw [a.tm, b.tm] <;> rfl, Nat.max_le.mpr ⟨a.dp, b.dp⟩, by
    have := a.wz
    have := b.wz
    show wtx d + 2 + wtxAll ds ≤ _
    omega⟩
theorem SzX.tup {n M : Nat} {ds : List PyData} (h : SzL n M ds) : SzX (n + 1) (M + 4) (.tuple ds) := ⟨h.tm, Nat.succ_le_succ h.dp, Nat.add_le_add_right h.wz 4⟩
theorem SzX.lst {n M : Nat} {ds : List PyData} (h : SzL n M ds) : SzX (n + 1) (M + 4) (.list ds) := ⟨h.tm, Nat.succ_le_succ h.dp, Nat.add_le_add_right h.wz 4⟩
theorem SzX.items {n M : Nat} {ds : List PyData} (h : SzX (n + 1) M (.tuple ds)) : SzL n M ds := ⟨h.tm, Nat.le_of_succ_le_succ h.dp, by
  have : wtxAll ds + 4 ≤ M := h.wz
  omega⟩
theorem SzL.split {n M : Nat} {as bs : List PyData} (h : SzL n M (as ++ bs)) : ∃ A B : Nat, SzL n A as ∧ SzL n B bs ∧ A + B ≤ M := by
  induction as generalizing M with
  | nil => exact ⟨0, M, .nil, h, by omega⟩
  | cons x r ih =>
    have t : (tmx x && tmxAll (r ++ bs)) = true := h.tm
    rw [Bool.and_eq_true] at t
    have dp := Nat.max_le.mp (show max (PyData.depth x) (PyData.depthAll (r ++ bs)) ≤ n from h.dp)
    have wz : wtx x + 2 + wtxAll (r ++ bs) ≤ M := h.wz
    obtain ⟨A, B, a, b, l⟩ := ih (M := wtxAll (r ++ bs)) ⟨t.2, dp.2, Nat.le_refl _⟩
    exact ⟨wtx x + 2 + A, B, .cons ⟨t.1, dp.1, Nat.le_refl _⟩ a, b, by omega⟩
theorem SzL.app {n A B : Nat} {as bs : List PyData} (a : SzL n A as) (b : SzL n B bs) : SzL n (A + B) (as ++ bs) := by
  induction as generalizing A with
  | nil => exact b.mono (Nat.le_refl _) (Nat.le_add_left _ _)
  | cons x r ih =>
    have t : (tmx x && tmxAll r) = true := a.tm
    rw [Bool.and_eq_true] at t
    have dp := Nat.max_le.mp (show max (PyData.depth x) (PyData.depthAll r) ≤ n from a.dp)
    have wz : wtx x + 2 + wtxAll r ≤ A := a.wz
    have q := ih (A := wtxAll r) ⟨t.2, dp.2, Nat.le_refl _⟩
    exact (SzL.cons (M := wtx x) ⟨t.1, dp.1, Nat.le_refl _⟩ q).mono (Nat.le_refl _) (by omega)
theorem SzL.rev {n M : Nat} {as : List PyData} (a : SzL n M as) : SzL n M as.reverse := by
  induction as generalizing M with
  | nil => exact a
  | cons x r ih =>
    have t : (tmx x && tmxAll r) = true := a.tm
    rw [Bool.and_eq_true] at t
    have dp := Nat.max_le.mp (show max (PyData.depth x) (PyData.depthAll r) ≤ n from a.dp)
    have wz : wtx x + 2 + wtxAll r ≤ M := a.wz
    rw [List.reverse_cons]
    have q := ih (M := wtxAll r) ⟨t.2, dp.2, Nat.le_refl _⟩
    exact (q.app (SzL.cons (M := wtx x) ⟨t.1, dp.1, Nat.le_refl _⟩ SzL.nil (M' := 0))).mono (Nat.le_refl _) (by omega)
theorem SzL.at {n M : Nat} {as bs : List PyData} {d : PyData} (h : SzL n M (as ++ d :: bs)) : ∃ A B C : Nat, SzL n A as ∧ SzX n B d ∧ SzL n C bs ∧ A + (B + 2 + C) ≤ M := by
  obtain ⟨A, R, a, r, l⟩ := h.split
  have t : (tmx d && tmxAll bs) = true := r.tm
  rw [Bool.and_eq_true] at t
  have dp := Nat.max_le.mp (show max (PyData.depth d) (PyData.depthAll bs) ≤ n from r.dp)
  have wz : wtx d + 2 + wtxAll bs ≤ R := r.wz
  exact ⟨A, wtx d, wtxAll bs, a, ⟨t.1, dp.1, Nat.le_refl _⟩, ⟨t.2, dp.2, Nat.le_refl _⟩, by omega⟩
section
variable {K : PySem.W.Frag} {H : Hp}
theorem DxAll.app {as bs : List V} {ds es : List PyData} (a : DxAll K H as ds) (b : DxAll K H bs es) : DxAll K H (as ++ bs) (ds ++ es) := by
  induction as generalizing ds with
  | nil =>
    cases a
    exact b
  | cons x r ih =>
    cases a with
    | cons h t => exact .cons h (ih t)
theorem DxAll.rev {as : List V} {ds : List PyData} (a : DxAll K H as ds) : DxAll K H as.reverse ds.reverse := by
  induction as generalizing ds with
  | nil =>
    cases a
    exact .nil
  | cons x r ih =>
    cases a with
    | cons h t =>
      rw [List.reverse_cons, List.reverse_cons]
      exact (ih t).app (.cons h .nil)
/-- an item, and what lies on its sides -/
theorem DxAll.at {as : List V} {ds : List PyData} (a : DxAll K H as ds) {i : Nat} {v : V} (h : as[i]? = some v) : ∃ (d : PyData) (xs ys : List PyData), ds = xs ++ d :: ys ∧ DxAll K H (as.take i) xs ∧ Dx K H v d ∧ DxAll K H (as.drop (i + 1)) ys := by
  induction as generalizing ds i with
  | nil => cases h
  | cons x r ih =>
    cases a with
    | @cons _ _ d es p t =>
      cases i with
      | zero =>
        cases h
        exact ⟨d, [], es, rfl, .nil, p, t⟩
      | succ i =>
        obtain ⟨e, xs, ys, rfl, h1, h2, h3⟩ := ih t h
        exact ⟨e, d :: xs, ys, rfl, .cons p h1, h2, h3⟩
end
end Vf

set_option Elab.async false
set_option linter.all false
set_option maxRecDepth 100000
set_option maxHeartbeats 4000000
namespace Lw
open PySem PySem.Spec PyProof.Rows L2 Vf
open C8 (Cal pe_c pe_gc CalAt)
def topS (i : Nat) : Stmt := PySem.Challenge.pw_leastlaid_k00_errors_of_any_value.main.body.getD i (.Pass ⟨0, 0, 0, 0⟩)
abbrev s_l_bag : Stmt := topS 11
theorem sc_l_bag : FnScope ["_law_script", "_law_cell"] ["_law_script"] (defScope s_l_bag) := ⟨rfl, rfl, rfl, by decide +kernel, rfl, by decide +kernel, by decide +kernel⟩
abbrev s_l_take : Stmt := topS 12
theorem sc_l_take : FnScope ["_law_bag_here", "_law_many", "_law_cell", "_law_stirred", "_law_value", "_law_begin", "_law_second"] ["_law_bag_here", "_law_many"] (defScope s_l_take) := ⟨rfl, rfl, rfl, by decide +kernel, rfl, by decide +kernel, by decide +kernel⟩
abbrev s_l_one : Stmt := topS 13
theorem sc_l_one : FnScope ["_law_bag_here", "_law_things"] ["_law_bag_here", "_law_things"] (defScope s_l_one) := ⟨rfl, rfl, rfl, by decide +kernel, rfl, by decide +kernel, by decide +kernel⟩
abbrev s_l_odd : Stmt := topS 14
theorem sc_l_odd : FnScope ["_law_bag_here", "_law_menu"] ["_law_bag_here"] (defScope s_l_odd) := ⟨rfl, rfl, rfl, by decide +kernel, rfl, by decide +kernel, by decide +kernel⟩
abbrev s_l_bent : Stmt := topS 15
theorem sc_l_bent : FnScope ["_law_bag_here", "_law_thing", "_law_deep", "_law_some", "_law_way", "_law_at"] ["_law_bag_here", "_law_thing", "_law_deep"] (defScope s_l_bent) := ⟨rfl, rfl, rfl, by decide +kernel, rfl, by decide +kernel, by decide +kernel⟩
abbrev s_l_built : Stmt := topS 16
theorem sc_l_built : FnScope ["_law_one_here", "_law_other", "_law_found"] ["_law_one_here", "_law_other"] (defScope s_l_built) := ⟨rfl, rfl, rfl, by decide +kernel, rfl, by decide +kernel, by decide +kernel⟩
abbrev s_l_kinds : Stmt := topS 17
theorem sc_l_kinds : FnScope ["_law_error", "_law_found"] ["_law_error"] (defScope s_l_kinds) := ⟨rfl, rfl, rfl, by decide +kernel, rfl, by decide +kernel, by decide +kernel⟩
abbrev s_l_are_apart : Stmt := topS 18
theorem sc_l_are_apart : FnScope ["_law_some", "_law_at", "_law_error", "_law_index"] ["_law_some"] (defScope s_l_are_apart) := ⟨rfl, rfl, rfl, by decide +kernel, rfl, by decide +kernel, by decide +kernel⟩
abbrev s_l_alike : Stmt := topS 19
theorem sc_l_alike : FnScope ["_law_found", "_law_due"] ["_law_found", "_law_due"] (defScope s_l_alike) := ⟨rfl, rfl, rfl, by decide +kernel, rfl, by decide +kernel, by decide +kernel⟩
abbrev s_l_fields : Stmt := topS 20
theorem sc_l_fields : FnScope ["_law_some"] ["_law_some"] (defScope s_l_fields) := ⟨rfl, rfl, rfl, by decide +kernel, rfl, by decide +kernel, by decide +kernel⟩
abbrev s_p_law : Stmt := topS 21
theorem sc_p_law : FnScope ["_law_script", "_law_bag_here", "_law_turn", "_law_one_here", "_law_other", "_law_some", "_law_others", "_law_rows", "_law_words"] ["_law_script"] (defScope s_p_law) := ⟨rfl, rfl, rfl, by decide +kernel, rfl, by decide +kernel, by decide +kernel⟩
structure Txt (K : PySem.W.Frag) (mg : Str → Option Value) (w : World) : Prop where
  d_l_bag : DefIn K mg "_law_bag" s_l_bag ["_law_script"]
  d_l_take : DefIn K mg "_law_take" s_l_take ["_law_bag_here", "_law_many"]
  d_l_one : DefIn K mg "_law_one" s_l_one ["_law_bag_here", "_law_things"]
  d_l_odd : DefIn K mg "_law_odd" s_l_odd ["_law_bag_here"]
  d_l_bent : DefIn K mg "_law_bent" s_l_bent ["_law_bag_here", "_law_thing", "_law_deep"]
  d_l_built : DefIn K mg "_law_built" s_l_built ["_law_one_here", "_law_other"]
  d_l_kinds : DefIn K mg "_law_kinds" s_l_kinds ["_law_error"]
  d_l_are_apart : DefIn K mg "_law_are_apart" s_l_are_apart ["_law_some"]
  d_l_alike : DefIn K mg "_law_alike" s_l_alike ["_law_found", "_law_due"]
  d_l_fields : DefIn K mg "_law_fields" s_l_fields ["_law_some"]
  d_p_law : DefIn K mg "law" s_p_law ["_law_script"]
  n_abs : mg "abs" = none
  n_int : mg "int" = none
  n_len : mg "len" = none
  n_range : mg "range" = none
  n_repr : mg "repr" = none
  n_isinstance : mg "isinstance" = none
  n_list : mg "list" = none
  n_enumerate : mg "enumerate" = none
  n_str : mg "str" = none
  n_tuple : mg "tuple" = none
  n_ValueError : mg "ValueError" = none
section
variable {P : Program} {w : World} {K : PySem.W.Frag} {mg : Str → Option Value} {base : Heap}

/-! the side of an operation; one step of a reading -/
local macro_rules | `(tactic| walk_at "side") => `(tactic| first
  | (show CMul _ _; first | exact Or.inr (by decide) | exact Or.inl (by decide) | (refine Or.inl ⟨?_, ?_⟩ <;> omega) | (refine Or.inr ⟨?_, ?_⟩ <;> omega))
  | (show CDivN _ _; refine ⟨?_, ?_⟩ <;> omega)
  | (show CPow _ _; exact ⟨by decide, by decide, by decide⟩)
  | (show (0 : Int) < _; first | decide | assumption | omega))
local macro_rules | `(tactic| walk_at "rd1") => `(tactic| first
  | refine ⟨_, _, rfl, rfl, (by walk_at "side"), ?_⟩
  | refine ⟨_, rfl, ?_⟩
  | refine ⟨_, _, rfl, rfl, ?_⟩
  | refine ⟨rfl, ?_⟩
  | refine .inl ⟨_, rfl, ?_⟩
  | refine ⟨_, _, _, _, rfl, rfl, SqL.of (by first | assumption | exact upd_same), atI_nat (j := _) rfl, ?_⟩
  | refine ⟨_, _, _, _, rfl, rfl, (by first | assumption | exact upd_same), rfl, ?_⟩)
local macro_rules | `(tactic| walk_at "rd") => `(tactic| repeat (walk_at "rd1"))

theorem cut_head (ns : List Int) (nn : ∀ n ∈ ns, (0 : Int) ≤ n) (i : Option Int) : ∃ x : Int, 0 ≤ x ∧ (cutV (ns.map V.int) i none ++ [V.int 0])[0]? = some (.int x) := by
  have hm : ∀ v ∈ cutV (ns.map V.int) i none, ∃ x : Int, 0 ≤ x ∧ v = .int x := fun v hv => by
    have h1 : v ∈ ns.map V.int := List.mem_of_mem_drop (List.mem_of_mem_take hv)
    obtain ⟨x, hx, rfl⟩ := List.mem_map.mp h1
    exact ⟨x, nn x hx, rfl⟩
  cases e : cutV (ns.map V.int) i none with
  | nil => exact ⟨0, by decide, rfl⟩
  | cons v r =>
    obtain ⟨x, h0, rfl⟩ := hm v (by rw [e]; exact List.mem_cons_self ..)
    exact ⟨x, h0, rfl⟩
theorem cut_size (ns : List Int) (nl : ns.length ≤ 63) (i : Option Int) : (cutV (ns.map V.int) i none).length + [V.int 0].length ≤ sizeLine := by
  have h := cutV_length (ns.map V.int) i none
  rw [List.length_map] at h
  exact Nat.le_trans (Nat.add_le_add_right (Nat.le_trans h nl) 1) (by decide)
theorem c_l_take (T : Txt K mg w) : Cal P w K mg base 1 "_law_take" spTake [] := by
  refine calOf T.d_l_take sc_l_take (fun vs H Q E h => ?_) (fun f cdv A outer s H vs Q E hr h => ?_)
  · obtain ⟨g, n, c, e, rfl, _⟩ := h
    rfl
  · obtain ⟨g, n, c, e, rfl, B, n0, n1, k⟩ := h
    have hLb := B.ne
    obtain ⟨z, m, i, ns, hb, hL, z0, m0, m1, i0, nn, nl⟩ := B.ex
    refine ⟨_,
      (Evl.pss_cut (ps_if (pt_cmpR op_eq (pe_ix ix_list (pv 0) pe_int (fun _ _ => rfl)) pe_int (nomark _))
        (pss_cons (ps_set (i := 2) sc_l_take.nd rfl (Or.inl rfl) (pe_ix ix_list (pe_op op_cat (pe_slice sl_list (pe_ix ix_list (pv 0) pe_int (fun _ _ => rfl)) (po_some (pe_ix ix_list (pv 0) pe_int (fun _ _ => rfl))) po_none) (pe_lst (pa_cons pe_int pa_nil))) pe_int (fun _ _ => rfl)))
        (pss_cons (ps_augS (pv 0) pe_int get_list pe_int ip_add set_list)
        (pss_cons (ps_if (pt_cmpR op_ge (pv 2) (pe_op op_pow pe_int pe_int) (nomark _))
        (pss_one (ps_asg (pv 2) (pg_sub (pv 0) pe_int set_list)))
        pss_nil)
        (pss_cons (ps_set (i := 3) sc_l_take.nd rfl (Or.inl rfl) (pe_op op_add (pe_op op_add (pe_op op_mul (pe_ix ix_list (pv 0) pe_int (fun _ _ => rfl)) pe_int) (pe_op op_mod (pe_callTy call_int1 (by rfl) T.n_int (by decide +kernel) (pa_cons (pv 2) pa_nil)) pe_int)) (pe_op op_mul pe_int (pe_ix ix_list (pv 0) pe_int (fun _ _ => rfl)))))
        (pss_one (ps_asg (pe_op op_mod (pe_callTy call_int1 (by rfl) T.n_int (by decide +kernel) (pa_cons (pv 3) pa_nil)) pe_int) (pg_sub (pv 0) pe_int set_list)))))))
        pss_nil)
        (pss_cons (ps_if (pt_cmpR op_gt (pe_ix ix_list (pv 0) pe_int (fun _ _ => rfl)) pe_int (nomark _))
        (pss_cons (ps_set (i := 4) sc_l_take.nd rfl (Or.inl rfl) (pe_op op_mod (pe_callTy call_int1 (by rfl) T.n_int (by decide +kernel) (pa_cons (pe_ix ix_list (pv 0) pe_int (fun _ _ => rfl)) pa_nil)) (pv 1)))
        (pss_cons (ps_asg (pe_op op_fdivN (pe_callTy call_int1 (by rfl) T.n_int (by decide +kernel) (pa_cons (pe_ix ix_list (pv 0) pe_int (fun _ _ => rfl)) pa_nil)) (pv 1)) (pg_sub (pv 0) pe_int set_list))
        (pss_one (ps_ret (pv 4)))))
        pss_nil)
        (pss_cons (ps_set (i := 5) sc_l_take.nd rfl (Or.inl rfl) (pe_op op_mod (pe_callTy call_int1 (by rfl) T.n_int (by decide +kernel) (pa_cons (pe_op op_mul (pe_op op_add (pe_ix ix_list (pv 0) pe_int (fun _ _ => rfl)) pe_int) pe_int) pa_nil)) pe_int))
        (pss_cons (ps_set (i := 6) sc_l_take.nd rfl (Or.inl rfl) (pe_op op_mod (pe_callTy call_int1 (by rfl) T.n_int (by decide +kernel) (pa_cons (pe_op op_mul (pe_op op_mod (pe_callTy call_int1 (by rfl) T.n_int (by decide +kernel) (pa_cons (pe_op op_mul (pv 5) (pv 5)) pa_nil)) pe_int) pe_int) pa_nil)) pe_int))
        (pss_one (ps_ret (pe_op op_mod (pe_callTy call_int1 (by rfl) T.n_int (by decide +kernel) (pa_cons (pe_op op_fdivN (pv 6) pe_int) pa_nil)) (pv 1))))))))
      , ?_⟩
    refine ⟨fun σ' H' => ∃ (z1 m1 i1 : Int) (v2 v3 : Option V), σ' = [some (.ref g.b), some (.int n), v2, v3, none, none, none] ∧ Fr g.b H H' ∧
        H' g.b = some (.lst [.int z1, .int m1, .int i1, .ref g.L, .int c, .int e]) ∧ 0 ≤ z1 ∧ 0 ≤ m1 ∧ m1 < 2147483647 ∧ 0 ≤ i1, ?_, ?_⟩
    · walk_at "rd"
      refine ite2 (fun h1 => ?_) (fun h1 => ?_)
      · walk_at "rd"
        refine ⟨_, _, rfl, SqL.of hL, fun p hp => ⟨(by decide), fun q hq => ⟨_, _, _, _, rfl, rfl, upd_some upd_same hq, upd_same, cut_size ns nl _, fun r hr => ?_⟩⟩⟩
        obtain ⟨x, x0, hx⟩ := cut_head ns nn (some i)
        refine ⟨_, _, _, _, rfl, rfl, SqL.of upd_same, atI_nat (j := 0) hx, ?_⟩
        have hb3 := upd_some (u := .lst (cutV (ns.map V.int) (some i) none ++ [.int 0])) (upd_some (u := .lst [.int 0]) (upd_some (u := .lst (cutV (ns.map V.int) (some i) none)) hb hp) hq) hr
        have fr3 : Fr g.b H _ := (((Fr.refl g.b H).new (o := .lst (cutV (ns.map V.int) (some i) none)) hp).new (o := .lst [.int 0]) hq).new (o := .lst (cutV (ns.map V.int) (some i) none ++ [.int 0])) hr
        generalize upd (upd (upd H p _) q _) r _ = H3 at hb3 fr3 ⊢
        -- bag[2] += 1
        walk_at "rd"
        have fr4 : ∀ o1 o2 : HO, Fr g.b H (upd (upd H3 g.b o1) g.b o2) := fun o1 o2 => fr3.at.at
        have md : ∀ y : Int, 0 ≤ y % 2147483647 ∧ y % 2147483647 < 2147483647 := fun y => ⟨Int.emod_nonneg _ (by decide), Int.emod_lt_of_pos _ (by decide)⟩
        refine ite2 (fun h2 => ?_) (fun h2 => ?_)
        · walk_at "rd"
          exact ⟨x, _, i + 1, _, _, rfl, fr3.at.at.at, upd_same, x0, (md _).1, (md _).2, by omega⟩
        · walk_at "rd"
          exact ⟨z, _, i + 1, _, _, rfl, fr3.at.at, upd_same, z0, (md _).1, (md _).2, by omega⟩
      · exact ⟨z, m, i, none, none, rfl, .refl _ _, hb, z0, m0, m1, i0⟩
    · rintro σ' H' ⟨z1, m1, i1, v2, v3, rfl, fr, hb1, z0, m0, mL, i0⟩
      have hn : ∀ y : Int, 0 ≤ y % n ∧ y % n < n := fun y => ⟨Int.emod_nonneg _ (by omega), Int.emod_lt_of_pos _ n0⟩
      walk_at "rd"
      refine ite2 (fun h1 => ?_) (fun h1 => ?_)
      · walk_at "rd"
        refine k _ _ (hn _).1 (hn _).2 (Drawn.mk' B ⟨⟨_, m1, i1, ns, upd_same, by rw [upd_ne hLb]; exact fr _ _ hLb hL, Int.fdiv_nonneg z0 (Int.le_of_lt n0), m0, mL, i0, nn, nl⟩, hLb⟩ fr.at)
      · walk_at "rd"
        exact k _ _ (hn _).1 (hn _).2 (Drawn.mk' B ⟨⟨z1, m1, i1, ns, hb1, fr _ _ hLb hL, z0, m0, mL, i0, nn, nl⟩, hLb⟩ fr)

theorem c_l_one (T : Txt K mg w) (c_l_take : Cal P w K mg base 1 "_law_take" spTake []) : Cal P w K mg base 2 "_law_one" (spOne K) [] := by
  refine calOf T.d_l_one sc_l_one (fun vs H Q E h => ?_) (fun f cdv A outer s H vs Q E hr h => ?_)
  · obtain ⟨g, x, c, e, rfl, _⟩ := h
    rfl
  · obtain ⟨g, x, c, e, rfl, B, h⟩ := h
    refine ⟨_,
      (pss_one (ps_ret (pe_ix ix_seq (pv 1) (pe_c c_l_take hr (by first | decide | omega) rfl (pa_cons (pv 0) (pa_cons (pe_callB call_len (by rfl) T.n_len PySem.boot_len (pa_cons (pv 1) pa_nil)) pa_nil))) (fun _ _ => rfl))))
      , ?_⟩
    rcases h with ⟨p, xs, rfl, hq, pb, h0, h1, k⟩ | ⟨z, rfl, h0, h1, k⟩
    · refine ⟨_, rfl, _, rfl, _, rfl, _, xs.length, rfl, hq.elim (fun q => .inl ⟨_, q, rfl⟩) (fun q => .inr ⟨_, q, rfl⟩), g, xs.length, c, e, rfl, B, by omega, by omega, fun r H' r0 r1 D => ?_⟩
      obtain ⟨v, hv, ha⟩ := at_of r0 r1
      rcases hq with q | q
      · exact .inl ⟨_, _, _, _, rfl, rfl, D.seqL pb q, ha, k v H' hv D⟩
      · exact .inr (.inl ⟨_, _, _, _, rfl, rfl, D.seqT pb q, ha, k v H' hv D⟩)
    · have hz : z.length ≤ sizeLine := Nat.le_trans (Nat.le_of_lt h1) (by decide)
      refine ⟨_, rfl, _, rfl, _, rfl, _, z.length, rfl, ⟨hz, rfl⟩, g, z.length, c, e, rfl, B, by omega, by omega, fun r H' r0 r1 D => ?_⟩
      obtain ⟨v, hv, ha⟩ := at_of (xs := z.cps.toList) r0 (by simpa [Str.length] using r1)
      exact .inr (.inr ⟨_, _, _, rfl, rfl, hz, ha, k v H' hv D⟩)

def spBag (K : PySem.W.Frag) : Sp := fun vs H Q _ => ∃ (a : Addr) (ns : List Int), vs = [.ref a] ∧ SqL K H a (ns.map V.int) ∧ ns.length ≤ 63 ∧ ∀ (g : Bg) (H' : Hp), Same H H' → Bag H' g 0 0 → Q (.ref g.b) H'
theorem cut_ints (ns : List Int) (lo hi : Option Int) : ∃ ms : List Int, cutV (ns.map V.int) lo hi = ms.map V.int ∧ ms.length ≤ ns.length := by
  refine ⟨(ns.drop (HT.sIx (ns.map V.int).length 0 lo)).take (HT.sIx (ns.map V.int).length (ns.map V.int).length hi - HT.sIx (ns.map V.int).length 0 lo), ?_, ?_⟩
  · unfold cutV
    rw [List.map_take, List.map_drop]
  · rw [List.length_take, List.length_drop]
    omega
theorem c_l_bag (T : Txt K mg w) : Cal P w K mg base 1 "_law_bag" (spBag K) [] := by
  refine calOf T.d_l_bag sc_l_bag (fun vs H Q E h => ?_) (fun f cdv A outer s H vs Q E hr h => ?_)
  · obtain ⟨a, ns, rfl, _⟩ := h
    rfl
  · obtain ⟨a, ns, rfl, hq, hl, k⟩ := h
    refine ⟨_,
      (pss_one (ps_ret (pe_lst (pa_cons pe_int (pa_cons pe_int (pa_cons pe_int (pa_cons (pe_lc (own := [("_law_cell", 1)]) (g := gName 1) (tt := tYes) rfl sc_l_bag.nd (pi_list (pe_slice sl_list (pv 0) po_none (po_some pe_int))) (blkOk_by (N := ["_law_script", "_law_cell"]) (sc := defScope s_l_bag) (by decide +kernel)) (fun _ _ _ _ _ => pg_name (i := 1) sc_l_bag.nd rfl (Or.inl rfl)) (fun _ _ _ _ _ => pts_nil) (fun _ _ _ _ _ => (pe_callB call_abs (by rfl) T.n_abs (by decide +kernel) (pa_cons (pv 1) pa_nil)))) (pa_cons pe_int (pa_cons pe_int pa_nil)))))))))
      , ?_⟩
    obtain ⟨ms, em, lm⟩ := cut_ints ns none (some 63)
    refine ⟨_, rfl, _, rfl, a, _, rfl, hq, fun p hp => ?_⟩
    rw [em]
    refine ⟨p, rfl, ⟨_, SqL.of upd_same⟩, fun D hD => ?_⟩
    have ap : upd H p (.lst (ms.map V.int)) p = some (.lst (ms.map V.int)) := upd_same
    have s1 : Same H (upd H p (.lst (ms.map V.int))) := same_new hp
    generalize upd H p (HO.lst (ms.map V.int)) = H1 at ap s1 hD ⊢
    refine lc_list (K := K) (a := p) (xs := ms.map V.int) (fun i H' => H' D = some (.lst (((ms.take i).map fun n => if n < 0 then -n else n).map V.int)) ∧ Same H1 H') ⟨upd_same, same_put (Same.refl _) hD⟩ (fun i H' _ ⟨_, s2⟩ => SqL.of (s2 _ _ ap)) ?_ ?_
    · rintro i y H' hi ⟨hd, s2⟩
      rw [List.getElem?_map] at hi
      obtain ⟨n, hn, rfl⟩ := Option.map_eq_some_iff.mp hi
      have li := (List.getElem?_eq_some_iff.mp hn).1
      refine ⟨rfl, _, rfl, n, rfl, _, hd, ?_, ?_, same_put s2 hD⟩
      · rw [List.length_map, List.length_map, List.length_take]
        exact Nat.lt_of_le_of_lt (Nat.min_le_left _ _) (Nat.lt_of_lt_of_le (show i < 100 by omega) (by decide))
      · rw [upd_same, List.take_add_one, hn, List.map_append, List.map_append]
        rfl
    · rintro H2 ⟨hd, s2⟩
      rw [List.length_map, List.take_length] at hd
      refine ⟨by show 6 ≤ sizeLine; decide, fun b hb => ?_⟩
      refine k ⟨b, D⟩ _ ((s1.trans s2).trans (same_new hb)) ⟨⟨0, 1234567891, 0, ms.map fun n => if n < 0 then -n else n, upd_same, upd_some hd hb, by decide, by decide, by decide, by decide, ?_, ?_⟩, ?_⟩
      · intro n hn
        obtain ⟨x, _, rfl⟩ := List.mem_map.mp hn
        show 0 ≤ if x < 0 then -x else x
        split <;> omega
      · rw [List.length_map]
        omega
      · exact ne_of_none hd hb

/-- values drawn: each is data of a small size, and none touches the bag -/
def AnyD (K : PySem.W.Frag) (b : Addr) (H : Hp) (xs : List V) : Prop := ∀ x ∈ xs, ∃ d, DX K b H x d ∧ SzX 4 400 d
theorem AnyD.up {H : Hp} {b p : Addr} {o : HO} {xs : List V} (A : AnyD K b H xs) (n : H p = none) : AnyD K b (upd H p o) xs := fun x hx => by
  obtain ⟨d, h, z⟩ := A x hx
  exact ⟨d, h.up n, z⟩
theorem AnyD.new {H : Hp} {b p : Addr} {o : HO} {xs : List V} {d : PyData} (A : AnyD K b H xs) (n : H p = none) (h : DX K b (upd H p o) (.ref p) d) (z : SzX 4 400 d) : AnyD K b (upd H p o) (.ref p :: xs) := fun x hx => by
  rcases List.mem_cons.mp hx with rfl | hx
  · exact ⟨d, h, z⟩
  · exact A.up n x hx
def baseD : List V := [V.non, V.bl true, V.bl false, V.int 0, V.int 1, V.int (-1), V.int (10 ^ (39 : Int).toNat), V.str "", V.str "a", V.str "fn", V.str "1.5", V.str " a", V.str "a b"]
theorem base_anyD {H : Hp} {b : Addr} : AnyD K b H baseD := by
  intro x hx
  have st : ∀ z : Str, (tmx (.str z) && decide (z.length ≤ 30)) = true → ∃ d, DX K b H (.str z) d ∧ SzX 4 400 d := fun z h => by
    obtain ⟨h1, h2⟩ := Bool.and_eq_true_iff.mp h
    have h2 := of_decide_eq_true h2
    exact ⟨.str z, .str z, h1, Nat.zero_le _, by show 10 * z.length + 2 ≤ 400; omega⟩
  have int : ∀ i : Int, i.natAbs < 10 ^ 60 → ∃ d, DX K b H (.int i) d ∧ SzX 4 400 d := fun i h => ⟨.int i, .int i, decide_eq_true h, Nat.zero_le _, by show 62 ≤ 400; decide⟩
  unfold baseD at hx
  simp only [List.mem_cons, List.not_mem_nil, or_false] at hx
  rcases hx with rfl | rfl | rfl | rfl | rfl | rfl | rfl | rfl | rfl | rfl | rfl | rfl | rfl
  · exact ⟨.none, .non, rfl, Nat.zero_le _, by show 4 ≤ 400; decide⟩
  · exact ⟨.bool true, .bl _, rfl, Nat.zero_le _, by show 5 ≤ 400; decide⟩
  · exact ⟨.bool false, .bl _, rfl, Nat.zero_le _, by show 5 ≤ 400; decide⟩
  · exact int _ (by decide +kernel)
  · exact int _ (by decide +kernel)
  · exact int _ (by decide +kernel)
  · exact int _ (by decide +kernel)
  all_goals exact st _ (by decide +kernel)
theorem sz_dec {d : PyData} (h : (tmx d && (decide (d.depth ≤ 4) && decide (wtx d ≤ 400))) = true) : SzX 4 400 d := by
  obtain ⟨h1, h2⟩ := Bool.and_eq_true_iff.mp h
  obtain ⟨h2, h3⟩ := Bool.and_eq_true_iff.mp h2
  exact ⟨h1, of_decide_eq_true h2, of_decide_eq_true h3⟩
theorem cpow39 : CPow 10 39 := ⟨by decide, by decide, by decide⟩
/-- any value is drawn -/
def spOdd (K : PySem.W.Frag) : Sp := fun vs H Q _ => ∃ (g : Bg) (c e : Int), vs = [.ref g.b] ∧ Bag H g c e ∧ ∀ (v : V) (d : PyData) (H' : Hp), DX K g.b H' v d → SzX 4 400 d → Drawn g H H' c e → Q v H'
theorem c_l_odd (T : Txt K mg w) (c_l_one : Cal P w K mg base 2 "_law_one" (spOne K) []) : Cal P w K mg base 3 "_law_odd" (spOdd K) [] := by
  refine calOf T.d_l_odd sc_l_odd (fun vs H Q E h => ?_) (fun f cdv A outer s H vs Q E hr h => ?_)
  · obtain ⟨g, c, e, rfl, _⟩ := h
    rfl
  · obtain ⟨g, c, e, rfl, B, k⟩ := h
    refine ⟨_,
      (pss_cons (ps_set (i := 1) sc_l_odd.nd rfl (Or.inl rfl) (pe_lst (pa_cons pe_non (pa_cons pe_bl (pa_cons pe_bl (pa_cons pe_int (pa_cons pe_int (pa_cons (pe_un un_neg pe_int) (pa_cons (pe_op op_pow pe_int pe_int) (pa_cons pe_str (pa_cons pe_str (pa_cons pe_str (pa_cons pe_str (pa_cons (pe_tup pa_nil) (pa_cons (pe_lst pa_nil) (pa_cons pe_dnewK (pa_cons (pe_tup (pa_cons pe_str (pa_cons pe_str pa_nil))) pa_nil)))))))))))))))))
        (pss_cons (ps_set (i := 1) sc_l_odd.nd rfl (Or.inl rfl) (pe_op op_cat (pv 1) (pe_lst (pa_cons (pe_tup (pa_cons (pe_tup (pa_cons pe_str (pa_cons pe_str pa_nil))) pa_nil)) (pa_cons (pe_disp (pps_cons pe_str pe_int pps_nil) (by rfl) (by rfl) (fun z => by cases z) (by decide)) pa_nil)))))
        (pss_cons (ps_set (i := 1) sc_l_odd.nd rfl (Or.inl rfl) (pe_op op_cat (pv 1) (pe_lst (pa_cons (pe_tup (pa_cons pe_str pa_nil)) (pa_cons (pe_tup (pa_cons pe_str (pa_cons pe_int pa_nil))) (pa_cons (pe_lst (pa_cons pe_str (pa_cons pe_str pa_nil))) (pa_cons (pe_tup (pa_cons pe_str (pa_cons pe_non pa_nil))) (pa_cons (pe_tup (pa_cons pe_str (pa_cons pe_non pa_nil))) (pa_cons (pe_tup (pa_cons (pe_tup (pa_cons pe_str (pa_cons pe_non pa_nil))) pa_nil)) pa_nil)))))))))
        (pss_cons (ps_set (i := 1) sc_l_odd.nd rfl (Or.inl rfl) (pe_op op_cat (pv 1) (pe_lst (pa_cons pe_str (pa_cons pe_str (pa_cons (pe_tup (pa_cons pe_str (pa_cons pe_str pa_nil))) (pa_cons (pe_tup (pa_cons pe_str (pa_cons pe_str pa_nil))) (pa_cons (pe_tup (pa_cons pe_str (pa_cons pe_str pa_nil))) (pa_cons (pe_tup (pa_cons pe_str (pa_cons pe_str pa_nil))) (pa_cons (pe_tup (pa_cons pe_str (pa_cons pe_str pa_nil))) pa_nil))))))))))
        (pss_one (ps_ret (pe_c c_l_one hr (by first | decide | omega) rfl (pa_cons (pv 0) (pa_cons (pv 1) pa_nil)))))))))
      , ?_⟩
    have D0 := Drawn.of B
    have A0 : AnyD K g.b H baseD := base_anyD
    refine ⟨_, rfl, _, _, rfl, rfl, cpow39, ?_⟩
    refine ⟨by show 0 ≤ sizeLine; decide, fun p1 hp1 => ?_⟩
    have D1 := D0.new (o := HO.tup []) hp1
    have A1 := A0.new (o := HO.tup []) hp1 (DX.newT hp1 (D0.bag.ne_new hp1) .nil) (sz_dec (by decide +kernel))
    refine ⟨by show 0 ≤ sizeLine; decide, fun p2 hp2 => ?_⟩
    have D2 := D1.new (o := HO.lst []) hp2
    have A2 := A1.new (o := HO.lst []) hp2 (DX.newL hp2 (D1.bag.ne_new hp2) .nil) (sz_dec (by decide +kernel))
    refine fun p3 hp3 => ?_
    have D3 := D2.new (o := HO.dK []) hp3
    have A3 := A2.new (o := HO.dK []) hp3 (DX.newD hp3 (D2.bag.ne_new hp3) List.nodup_nil .nil) (sz_dec (by decide +kernel))
    refine ⟨by show 2 ≤ sizeLine; decide, fun p4 hp4 => ?_⟩
    have D4 := D3.new (o := HO.tup [V.str "name", V.str "a"]) hp4
    have A4 := A3.new (o := HO.tup [V.str "name", V.str "a"]) hp4 (DX.newT hp4 (D3.bag.ne_new hp4) (.cons (.str _) (.cons (.str _) .nil))) (sz_dec (by decide +kernel))
    refine ⟨by show 15 ≤ sizeLine; decide, fun p5 hp5 => ?_⟩
    have D5 := D4.new (o := HO.lst [V.non, V.bl true, V.bl false, V.int 0, V.int 1, V.int (-1), V.int (10 ^ (39 : Int).toNat), V.str "", V.str "a", V.str "fn", V.str "1.5", V.ref p1, V.ref p2, V.ref p3, V.ref p4]) hp5
    have A5 := A4.up (o := HO.lst [V.non, V.bl true, V.bl false, V.int 0, V.int 1, V.int (-1), V.int (10 ^ (39 : Int).toNat), V.str "", V.str "a", V.str "fn", V.str "1.5", V.ref p1, V.ref p2, V.ref p3, V.ref p4]) hp5
    refine ⟨_, rfl, ?_⟩
    refine ⟨by show 2 ≤ sizeLine; decide, fun p6 hp6 => ?_⟩
    have D6 := D5.new (o := HO.tup [V.str "name", V.str "a"]) hp6
    have X6 := DX.newT hp6 (D5.bag.ne_new hp6) (b := g.b) (K := K) (xs := [V.str "name", V.str "a"]) (.cons (.str "name") (.cons (.str "a") .nil))
    have A6 := A5.up (o := HO.tup [V.str "name", V.str "a"]) hp6
    refine ⟨by show 1 ≤ sizeLine; decide, fun p7 hp7 => ?_⟩
    have D7 := D6.new (o := HO.tup [V.ref p6]) hp7
    have A7 := A6.new (o := HO.tup [V.ref p6]) hp7 (DX.newT hp7 (D6.bag.ne_new hp7) (.cons X6 .nil)) (sz_dec (by decide +kernel))
    refine fun p8 hp8 => ⟨upd_same, [(.inr "a", .int 1)], rfl, by decide, ?_⟩
    rw [upd_upd]
    have D8 := D7.new (o := HO.dK (mergeK [] [(.inr "a", .int 1)])) hp8
    have A8 := A7.new (o := HO.dK (mergeK [] [(.inr "a", .int 1)])) hp8 (DX.newD (kvs := [(.inr "a", .int 1)]) hp8 (D7.bag.ne_new hp8) (by simp) (.cons (.int _) .nil)) (sz_dec (by decide +kernel))
    refine ⟨by show 2 ≤ sizeLine; decide, fun p9 hp9 => ?_⟩
    have D9 := D8.new (o := HO.lst [V.ref p7, V.ref p8]) hp9
    have A9 := A8.up (o := HO.lst [V.ref p7, V.ref p8]) hp9
    refine ⟨_, _, [V.non, V.bl true, V.bl false, V.int 0, V.int 1, V.int (-1), V.int (10 ^ (39 : Int).toNat), V.str "", V.str "a", V.str "fn", V.str "1.5", V.ref p1, V.ref p2, V.ref p3, V.ref p4], [V.ref p7, V.ref p8], rfl, rfl, (upd_some (upd_some (upd_some (upd_some upd_same hp6) hp7) hp8) hp9), upd_same, by show 15 + 2 ≤ sizeLine; decide, fun p10 hp10 => ?_⟩
    have D10 := D9.new (o := HO.lst ([V.non, V.bl true, V.bl false, V.int 0, V.int 1, V.int (-1), V.int (10 ^ (39 : Int).toNat), V.str "", V.str "a", V.str "fn", V.str "1.5", V.ref p1, V.ref p2, V.ref p3, V.ref p4] ++ [V.ref p7, V.ref p8])) hp10
    have A10 := A9.up (o := HO.lst ([V.non, V.bl true, V.bl false, V.int 0, V.int 1, V.int (-1), V.int (10 ^ (39 : Int).toNat), V.str "", V.str "a", V.str "fn", V.str "1.5", V.ref p1, V.ref p2, V.ref p3, V.ref p4] ++ [V.ref p7, V.ref p8])) hp10
    refine ⟨_, rfl, ?_⟩
    refine ⟨by show 1 ≤ sizeLine; decide, fun p11 hp11 => ?_⟩
    have D11 := D10.new (o := HO.tup [V.str "name"]) hp11
    have A11 := A10.new (o := HO.tup [V.str "name"]) hp11 (DX.newT hp11 (D10.bag.ne_new hp11) (.cons (.str _) .nil)) (sz_dec (by decide +kernel))
    refine ⟨by show 2 ≤ sizeLine; decide, fun p12 hp12 => ?_⟩
    have D12 := D11.new (o := HO.tup [V.str "number", V.int 1]) hp12
    have A12 := A11.new (o := HO.tup [V.str "number", V.int 1]) hp12 (DX.newT hp12 (D11.bag.ne_new hp12) (.cons (.str _) (.cons (.int _) .nil))) (sz_dec (by decide +kernel))
    refine ⟨by show 2 ≤ sizeLine; decide, fun p13 hp13 => ?_⟩
    have D13 := D12.new (o := HO.lst [V.str "name", V.str "a"]) hp13
    have A13 := A12.new (o := HO.lst [V.str "name", V.str "a"]) hp13 (DX.newL hp13 (D12.bag.ne_new hp13) (.cons (.str _) (.cons (.str _) .nil))) (sz_dec (by decide +kernel))
    refine ⟨by show 2 ≤ sizeLine; decide, fun p14 hp14 => ?_⟩
    have D14 := D13.new (o := HO.tup [V.str "do", V.non]) hp14
    have A14 := A13.new (o := HO.tup [V.str "do", V.non]) hp14 (DX.newT hp14 (D13.bag.ne_new hp14) (.cons (.str _) (.cons .non .nil))) (sz_dec (by decide +kernel))
    refine ⟨by show 2 ≤ sizeLine; decide, fun p15 hp15 => ?_⟩
    have D15 := D14.new (o := HO.tup [V.str "give", V.non]) hp15
    have A15 := A14.new (o := HO.tup [V.str "give", V.non]) hp15 (DX.newT hp15 (D14.bag.ne_new hp15) (.cons (.str _) (.cons .non .nil))) (sz_dec (by decide +kernel))
    refine ⟨by show 2 ≤ sizeLine; decide, fun p16 hp16 => ?_⟩
    have D16 := D15.new (o := HO.tup [V.str "give", V.non]) hp16
    have X16 := DX.newT hp16 (D15.bag.ne_new hp16) (b := g.b) (K := K) (xs := [V.str "give", V.non]) (.cons (.str "give") (.cons .non .nil))
    have A16 := A15.up (o := HO.tup [V.str "give", V.non]) hp16
    refine ⟨by show 1 ≤ sizeLine; decide, fun p17 hp17 => ?_⟩
    have D17 := D16.new (o := HO.tup [V.ref p16]) hp17
    have A17 := A16.new (o := HO.tup [V.ref p16]) hp17 (DX.newT hp17 (D16.bag.ne_new hp17) (.cons X16 .nil)) (sz_dec (by decide +kernel))
    refine ⟨by show 6 ≤ sizeLine; decide, fun p18 hp18 => ?_⟩
    have D18 := D17.new (o := HO.lst [V.ref p11, V.ref p12, V.ref p13, V.ref p14, V.ref p15, V.ref p17]) hp18
    have A18 := A17.up (o := HO.lst [V.ref p11, V.ref p12, V.ref p13, V.ref p14, V.ref p15, V.ref p17]) hp18
    refine ⟨_, _, ([V.non, V.bl true, V.bl false, V.int 0, V.int 1, V.int (-1), V.int (10 ^ (39 : Int).toNat), V.str "", V.str "a", V.str "fn", V.str "1.5", V.ref p1, V.ref p2, V.ref p3, V.ref p4] ++ [V.ref p7, V.ref p8]), [V.ref p11, V.ref p12, V.ref p13, V.ref p14, V.ref p15, V.ref p17], rfl, rfl, (upd_some (upd_some (upd_some (upd_some (upd_some (upd_some (upd_some (upd_some upd_same hp11) hp12) hp13) hp14) hp15) hp16) hp17) hp18), upd_same, by show 17 + 6 ≤ sizeLine; decide, fun p19 hp19 => ?_⟩
    have D19 := D18.new (o := HO.lst (([V.non, V.bl true, V.bl false, V.int 0, V.int 1, V.int (-1), V.int (10 ^ (39 : Int).toNat), V.str "", V.str "a", V.str "fn", V.str "1.5", V.ref p1, V.ref p2, V.ref p3, V.ref p4] ++ [V.ref p7, V.ref p8]) ++ [V.ref p11, V.ref p12, V.ref p13, V.ref p14, V.ref p15, V.ref p17])) hp19
    have A19 := A18.up (o := HO.lst (([V.non, V.bl true, V.bl false, V.int 0, V.int 1, V.int (-1), V.int (10 ^ (39 : Int).toNat), V.str "", V.str "a", V.str "fn", V.str "1.5", V.ref p1, V.ref p2, V.ref p3, V.ref p4] ++ [V.ref p7, V.ref p8]) ++ [V.ref p11, V.ref p12, V.ref p13, V.ref p14, V.ref p15, V.ref p17])) hp19
    refine ⟨_, rfl, ?_⟩
    refine ⟨by show 2 ≤ sizeLine; decide, fun p20 hp20 => ?_⟩
    have D20 := D19.new (o := HO.tup [V.str "sign", V.str ";"]) hp20
    have A20 := A19.new (o := HO.tup [V.str "sign", V.str ";"]) hp20 (DX.newT hp20 (D19.bag.ne_new hp20) (.cons (.str _) (.cons (.str _) .nil))) (sz_dec (by decide +kernel))
    refine ⟨by show 2 ≤ sizeLine; decide, fun p21 hp21 => ?_⟩
    have D21 := D20.new (o := HO.tup [V.str "keyword", V.str "true"]) hp21
    have A21 := A20.new (o := HO.tup [V.str "keyword", V.str "true"]) hp21 (DX.newT hp21 (D20.bag.ne_new hp21) (.cons (.str _) (.cons (.str _) .nil))) (sz_dec (by decide +kernel))
    refine ⟨by show 2 ≤ sizeLine; decide, fun p22 hp22 => ?_⟩
    have D22 := D21.new (o := HO.tup [V.str "line", V.str "# a"]) hp22
    have A22 := A21.new (o := HO.tup [V.str "line", V.str "# a"]) hp22 (DX.newT hp22 (D21.bag.ne_new hp22) (.cons (.str _) (.cons (.str _) .nil))) (sz_dec (by decide +kernel))
    refine ⟨by show 2 ≤ sizeLine; decide, fun p23 hp23 => ?_⟩
    have D23 := D22.new (o := HO.tup [V.str "block", V.str "<**>"]) hp23
    have A23 := A22.new (o := HO.tup [V.str "block", V.str "<**>"]) hp23 (DX.newT hp23 (D22.bag.ne_new hp23) (.cons (.str _) (.cons (.str _) .nil))) (sz_dec (by decide +kernel))
    refine ⟨by show 2 ≤ sizeLine; decide, fun p24 hp24 => ?_⟩
    have D24 := D23.new (o := HO.tup [V.str "word", V.str "let"]) hp24
    have A24 := A23.new (o := HO.tup [V.str "word", V.str "let"]) hp24 (DX.newT hp24 (D23.bag.ne_new hp24) (.cons (.str _) (.cons (.str _) .nil))) (sz_dec (by decide +kernel))
    refine ⟨by show 7 ≤ sizeLine; decide, fun p25 hp25 => ?_⟩
    have D25 := D24.new (o := HO.lst [V.str " a", V.str "a b", V.ref p20, V.ref p21, V.ref p22, V.ref p23, V.ref p24]) hp25
    have A25 := A24.up (o := HO.lst [V.str " a", V.str "a b", V.ref p20, V.ref p21, V.ref p22, V.ref p23, V.ref p24]) hp25
    refine ⟨_, _, (([V.non, V.bl true, V.bl false, V.int 0, V.int 1, V.int (-1), V.int (10 ^ (39 : Int).toNat), V.str "", V.str "a", V.str "fn", V.str "1.5", V.ref p1, V.ref p2, V.ref p3, V.ref p4] ++ [V.ref p7, V.ref p8]) ++ [V.ref p11, V.ref p12, V.ref p13, V.ref p14, V.ref p15, V.ref p17]), [V.str " a", V.str "a b", V.ref p20, V.ref p21, V.ref p22, V.ref p23, V.ref p24], rfl, rfl, (upd_some (upd_some (upd_some (upd_some (upd_some (upd_some upd_same hp20) hp21) hp22) hp23) hp24) hp25), upd_same, by show 23 + 7 ≤ sizeLine; decide, fun p26 hp26 => ?_⟩
    have D26 := D25.new (o := HO.lst ((([V.non, V.bl true, V.bl false, V.int 0, V.int 1, V.int (-1), V.int (10 ^ (39 : Int).toNat), V.str "", V.str "a", V.str "fn", V.str "1.5", V.ref p1, V.ref p2, V.ref p3, V.ref p4] ++ [V.ref p7, V.ref p8]) ++ [V.ref p11, V.ref p12, V.ref p13, V.ref p14, V.ref p15, V.ref p17]) ++ [V.str " a", V.str "a b", V.ref p20, V.ref p21, V.ref p22, V.ref p23, V.ref p24])) hp26
    have A26 := A25.up (o := HO.lst ((([V.non, V.bl true, V.bl false, V.int 0, V.int 1, V.int (-1), V.int (10 ^ (39 : Int).toNat), V.str "", V.str "a", V.str "fn", V.str "1.5", V.ref p1, V.ref p2, V.ref p3, V.ref p4] ++ [V.ref p7, V.ref p8]) ++ [V.ref p11, V.ref p12, V.ref p13, V.ref p14, V.ref p15, V.ref p17]) ++ [V.str " a", V.str "a b", V.ref p20, V.ref p21, V.ref p22, V.ref p23, V.ref p24])) hp26
    refine ⟨_, rfl, _, rfl, pick_of D25.bag hp26 (by show 0 < 30; decide) (by show 30 < 1000; decide) fun v H1 hv D => ?_⟩
    obtain ⟨d, hd, sz⟩ := A25 v (by
      clear k D A0 A1 A2 A3 A4 A5 A6 A7 A8 A9 A10 A11 A12 A13 A14 A15 A16 A17 A18 A19 A20 A21 A22 A23 A24 A25 A26
      unfold baseD
      simp only [List.mem_append, List.mem_cons, List.not_mem_nil, or_false] at hv ⊢
      repeat' rcases hv with hv | hv
      all_goals simp)
    exact k v d H1 (hd.fr D.fr) sz (D25.trans D)

theorem cut_to (xs : List V) {j : Nat} (h : j ≤ xs.length) : cutV xs none (some (j : Int)) = xs.take j := by
  unfold cutV
  rw [HT.sIx_nat, HT.sIx_none, List.drop_zero, Nat.min_eq_left h, Nat.sub_zero]
theorem cut_fr (xs : List V) {j : Nat} (h : j ≤ xs.length) : cutV xs (some (j : Int)) none = xs.drop j := by
  unfold cutV
  rw [HT.sIx_nat, HT.sIx_none, Nat.min_eq_left h]
  exact List.take_of_length_le (by rw [List.length_drop] <;> omega)
theorem cut_at (xs : List V) {j : Nat} {y : V} (h : xs[j]? = some y) : cutV xs (some (j : Int)) (some ((j : Int) + 1)) = [y] := by
  have l := (List.getElem?_eq_some_iff.mp h).1
  have e : ((j : Int) + 1) = ((j + 1 : Nat) : Int) := rfl
  unfold cutV
  rw [e, HT.sIx_nat, HT.sIx_nat, Nat.min_eq_left (Nat.le_of_lt l), Nat.min_eq_left l, show j.succ - j = 1 by omega]
  obtain ⟨_, q⟩ := List.getElem?_eq_some_iff.mp h
  rw [List.drop_eq_getElem_cons l, q]
  rfl
theorem drop_at {xs : List V} {j : Nat} {y : V} (h : xs[j]? = some y) : xs.drop j = y :: xs.drop (j + 1) := by
  obtain ⟨l, q⟩ := List.getElem?_eq_some_iff.mp h
  rw [List.drop_eq_getElem_cons l, q]
theorem sqT_hid {H : Hp} {b r : Addr} {L : List V} {o : List V} (h : H b = some (.lst o)) (q : SqT K H r L) : SqT K (hid b H) r L := by
  have ne : ∀ u, H r = some u → (∀ l, u ≠ .lst l) → hid b H r = some u := fun u e n => by
    rw [hid_ne (fun z => by
      rw [z, h] at e
      cases e
      exact n _ rfl)]
    exact e
  rcases q with (q | ⟨o, q⟩) | q
  · exact .inl (.inl (ne _ q fun l z => by cases z))
  · exact .inl (.inr ⟨o, ne _ q fun l z => by cases z⟩)
  · exact .inr q
theorem szL_len {n M : Nat} {ds : List PyData} (h : SzL n M ds) : 2 * ds.length ≤ M := by
  have : ∀ l : List PyData, 2 * l.length ≤ wtxAll l := by
    intro l
    induction l with
    | nil => exact Nat.le_refl _
    | cons x r ih =>
      show 2 * (r.length + 1) ≤ wtx x + 2 + wtxAll r
      omega
  exact Nat.le_trans (this ds) h.wz
/-- a value near a value, below depth m -/
def spBent (K : PySem.W.Frag) (m : Nat) : Sp := fun vs H Q _ => ∃ (g : Bg) (v : V) (d : PyData) (n : Nat) (c e : Int) (N M : Nat), vs = [.ref g.b, v, .int n] ∧ n < m ∧ Bag H g c e ∧ DX K g.b H v d ∧ SzX N M d ∧ M ≤ 900 ∧
  ∀ (v' : V) (d' : PyData) (H' : Hp), DX K g.b H' v' d' → SzX (N + 5) (3 * M + 1000 * (n + 1)) d' → Drawn g H H' c e → Q v' H'
theorem bent_none (T : Txt K mg w) : Cal P w K mg base 4 "_law_bent" (spBent K 0) [] := by
  refine calOf T.d_l_bent sc_l_bent (fun vs H Q E h => ?_) (fun f cdv A outer s H vs Q E hr h => ?_)
  · obtain ⟨g, v, d, n, c, e, N, M, rfl, h, _⟩ := h
    exact absurd h (Nat.not_lt_zero _)
  · obtain ⟨g, v, d, n, c, e, N, M, rfl, h, _⟩ := h
    exact absurd h (Nat.not_lt_zero _)
theorem c_l_bent (T : Txt K mg w) {m : Nat} (c_l_take : Cal P w K mg base 1 "_law_take" spTake []) (c_l_one : Cal P w K mg base 2 "_law_one" (spOne K) []) (c_l_odd : Cal P w K mg base 3 "_law_odd" (spOdd K) [])
    (c_l_bent : Cal P w K mg base (4 + m) "_law_bent" (spBent K m) []) : Cal P w K mg base (4 + m + 1) "_law_bent" (spBent K (m + 1)) [] := by
  refine calOf T.d_l_bent sc_l_bent (fun vs H Q E h => ?_) (fun f cdv A outer s H vs Q E hr h => ?_)
  · obtain ⟨g, v, d, n, c, e, N, M, rfl, _⟩ := h
    rfl
  · obtain ⟨g, v, d, n, c, e, N, M, rfl, hn, B, hd, sz, hM, k⟩ := h
    refine ⟨_,
      (Evl.pss_cut (ps_if (PW.pt (pw_and (pt_val (pe_callB call_isi (by rfl) T.n_isinstance (by decide +kernel) (pa_cons (pv 1) (pa_cons (pe_bltn (v := V.ty "str") (by rfl) T.n_str (by decide +kernel) rfl) pa_nil)))) (pw_and1 (pt_cmpR op_gt (pe_c c_l_take hr (by first | decide | omega) rfl (pa_cons (pv 0) (pa_cons pe_int pa_nil))) pe_int (nomark _)))))
        (pss_cons (ps_set (i := 3) sc_l_bent.nd rfl (Or.inl rfl) (pe_lst (pa_cons (pe_op op_add_str (pv 1) pe_str) (pa_cons (pe_slice sl_str (pv 1) (po_some pe_int) po_none) (pa_cons (pe_op op_add_str (pv 1) pe_str) (pa_cons (pe_op op_add_str pe_str (pv 1)) (pa_cons (pe_op op_add_str (pv 1) pe_str) (pa_cons (pe_op op_rep_str (pv 1) pe_int) pa_nil))))))))
        (pss_one (ps_ret (pe_c c_l_one hr (by first | decide | omega) rfl (pa_cons (pv 0) (pa_cons (pe_op op_cat (pv 3) (pe_lst (pa_cons pe_str (pa_cons pe_str (pa_cons pe_str (pa_cons pe_str (pa_cons pe_str pa_nil))))))) pa_nil))))))
        pss_nil)
        (pss_cons (ps_if (PW.pt (pw_or (pt_not (pt_val (pe_callB call_isi (by rfl) T.n_isinstance (by decide +kernel) (pa_cons (pv 1) (pa_cons (pe_bltn (v := V.ty "tuple") (by rfl) T.n_tuple (by decide +kernel) rfl) pa_nil))))) (pw_or (pt_cmpR (op_eqE hr.units) (pv 1) (pe_tup pa_nil) (nomark _)) (pw_or1 (pt_cmpR op_eq (pv 2) pe_int (nomark _))))))
        (pss_one (ps_ret (pe_c c_l_odd hr (by first | decide | omega) rfl (pa_cons (pv 0) pa_nil))))
        pss_nil)
        (pss_cons (ps_par (i := 4) (j := 5) (by rfl) sc_l_bent.nd rfl rfl (by decide) rfl rfl (pa_cons (pe_c c_l_take hr (by first | decide | omega) rfl (pa_cons (pv 0) (pa_cons pe_int pa_nil))) (pa_cons (pe_c c_l_take hr (by first | decide | omega) rfl (pa_cons (pv 0) (pa_cons (pe_callB call_len (by rfl) T.n_len PySem.boot_len (pa_cons (pv 1) pa_nil)) pa_nil))) pa_nil)) (by rfl))
        (pss_cons (ps_if (pt_cmpR op_eq (pv 4) pe_int (nomark _))
        (pss_one (ps_ret (pe_callTy call_list_of (by rfl) T.n_list (by decide +kernel) (pa_cons (pv 1) pa_nil))))
        pss_nil)
        (pss_cons (ps_if (pt_cmpR op_eq (pv 4) pe_int (nomark _))
        (pss_one (ps_ret (pe_op op_catU (pe_slice sl_tupU (pv 1) po_none (po_some (pv 5))) (pe_slice sl_tupU (pv 1) (po_some (pe_op op_add (pv 5) pe_int)) po_none))))
        pss_nil)
        (pss_cons (ps_if (pt_cmpR op_eq (pv 4) pe_int (nomark _))
        (pss_one (ps_ret (pe_op op_catU (pe_op op_catU (pe_slice sl_tupU (pv 1) po_none (po_some (pv 5))) (pe_tup (pa_cons (pe_c c_l_odd hr (by first | decide | omega) rfl (pa_cons (pv 0) pa_nil)) pa_nil))) (pe_slice sl_tupU (pv 1) (po_some (pv 5)) po_none))))
        pss_nil)
        (pss_cons (ps_if (pt_cmpR op_eq (pv 4) pe_int (nomark _))
        (pss_one (ps_ret (pe_revT (pv 1))))
        pss_nil)
        (pss_cons (ps_if (pt_cmpR op_eq (pv 4) pe_int (nomark _))
        (pss_one (ps_ret (pe_op op_catU (pe_op op_catU (pe_slice sl_tupU (pv 1) po_none (po_some (pv 5))) (pe_slice sl_tupU (pv 1) (po_some (pv 5)) (po_some (pe_op op_add (pv 5) pe_int)))) (pe_slice sl_tupU (pv 1) (po_some (pv 5)) po_none))))
        pss_nil)
        (pss_one (ps_ret (pe_op op_catU (pe_op op_catU (pe_slice sl_tupU (pv 1) po_none (po_some (pv 5))) (pe_tup (pa_cons (pe_c c_l_bent hr (by first | decide | omega) rfl (pa_cons (pv 0) (pa_cons (pe_ix ix_tup (pv 1) (pv 5) (fun _ _ => rfl)) (pa_cons (pe_op op_sub (pv 2) pe_int) pa_nil)))) pa_nil))) (pe_slice sl_tupU (pv 1) (po_some (pe_op op_add (pv 5) pe_int)) po_none))))))))))))
      , ?_⟩
    refine ⟨fun σ' H' => σ' = [some (.ref g.b), some v, some (.int n), none, none, none] ∧ Drawn g H H' c e, ?_, ?_⟩
    · refine ⟨_, rfl, _, _, _, _, _, rfl, .ty _, hd.dx.ty, kit_strD K d, ?_⟩
      have no : tyD d ≠ "str" → decide (tyD d = "str") = false := fun h => decide_eq_false h
      cases d with
      | str z =>
        obtain rfl : v = .str z := by
          cases hd
          rfl
        have zl : 10 * z.length + 2 ≤ M := sz.wz
        have zs : z.length ≤ sizeLine := Nat.le_trans (show z.length ≤ 100 by omega) (by decide)
        refine ⟨_, rfl, _, rfl, g, 3, c, e, rfl, B, by decide, by decide, fun r H1 r0 r1 D1 => ?_⟩
        walk_at "rd"
        refine ite2 (fun h1 => ?_) (fun h1 => ?_)
        · have ln : ∀ x : Str, x.length ≤ 100 → z.length + x.length ≤ sizeLine := fun x h => Nat.le_trans (show z.length + x.length ≤ 200 by omega) (by decide)
          walk_at "rd"
          refine ⟨ln _ (by decide), ?_⟩
          walk_at "rd"
          refine ⟨zs, ?_⟩
          walk_at "rd"
          refine ⟨ln _ (by decide), ?_⟩
          walk_at "rd"
          refine ⟨Nat.add_comm z.length _ ▸ ln _ (by decide), ?_⟩
          walk_at "rd"
          refine ⟨ln _ (by decide), ?_⟩
          walk_at "rd"
          refine ⟨by decide, by decide, by omega, fun r2 e2 => ⟨by show 6 ≤ sizeLine; decide, fun p1 hp1 => ?_⟩⟩
          have key : ∀ (y : Str) (H3 : Hp), Nice y → y.length ≤ 2 * z.length + 10 → ∃ d', DX K g.b H3 (.str y) d' ∧ SzX (N + 5) (3 * M + 1000 * (n + 1)) d' := fun y H3 ny ly =>
            ⟨.str y, .str y, ny.tame, Nat.zero_le _, by show 10 * y.length + 2 ≤ 3 * M + 1000 * (n + 1); omega⟩
          have nz : Nice z := fun c hc => of_decide_eq_true (List.all_eq_true.mp (by
            have t : z.cps.all (· < 0x110000) = true := sz.tm
            rw [← Array.all_toList] at t
            exact t) c hc)
          have la : ∀ x y : Str, (x ++ y).length = x.length + y.length := Str.length_append
          have l1 : (cutS z (some 1) none).length ≤ z.length := by
            have q := tl_from z 1
            rw [str_len, str_len z, show ((1 : Int)) = ((1 : Nat) : Int) from rfl, q, List.length_drop]
            omega
          have l2 : r2.length = 2 * z.length := by
            rw [str_len, e2, str_len z]
            show (List.replicate 2 (TL.tl z)).flatten.length = _
            simp
            omega
          have n2 : Nice r2 := fun c hc => by
            rw [show TL.tl r2 = _ from e2] at hc
            obtain ⟨l, hl, hc⟩ := List.mem_flatten.mp hc
            rw [List.eq_of_mem_replicate hl] at hc
            exact nz c hc
          refine ⟨_, rfl, _, rfl, by show 5 ≤ sizeLine; decide, fun p2 hp2 => ⟨_, _, _, _, rfl, rfl, upd_some upd_same hp2, upd_same, by show 6 + 5 ≤ sizeLine; decide, fun p3 hp3 => ?_⟩⟩
          have D2 := (D1.new (o := HO.lst [V.str (z ++ "a"), V.str (cutS z (some 1) none), V.str (z ++ " "), V.str ("1" ++ z), V.str (z ++ "\""), V.str r2]) hp1).new (o := HO.lst [V.str "or", V.str "==", V.str "not", V.str "fn", V.str "true"]) hp2
          refine pick_of D2.bag hp3 (by show 0 < 11; decide) (by show 11 < 1000; decide) fun v' H3 hv D3 => ?_
          obtain ⟨y, rfl, ny, ly⟩ : ∃ y, v' = .str y ∧ Nice y ∧ y.length ≤ 2 * z.length + 10 := by
            have cs : ∀ y : Str, (TL.tl y).all (· < 0x110000) = true → y.length ≤ 10 → Nice y ∧ y.length ≤ 2 * z.length + 10 := fun y h l => ⟨nice_of h, by omega⟩
            have c1 : ∀ y : Str, (TL.tl y).all (· < 0x110000) = true → y.length ≤ 10 → Nice (z ++ y) ∧ (z ++ y).length ≤ 2 * z.length + 10 := fun y h l => ⟨nz.cat (nice_of h), by rw [la]; omega⟩
            simp only [List.mem_append, List.mem_cons, List.not_mem_nil, or_false] at hv
            rcases hv with (rfl | rfl | rfl | rfl | rfl | rfl) | (rfl | rfl | rfl | rfl | rfl)
            · exact ⟨_, rfl, c1 _ (by decide +kernel) (by decide)⟩
            · exact ⟨_, rfl, nz.cut _ _, by omega⟩
            · exact ⟨_, rfl, c1 _ (by decide +kernel) (by decide)⟩
            · exact ⟨_, rfl, (nice_of (by decide +kernel)).cat nz, by
                rw [la]
                show 1 + z.length ≤ _
                omega⟩
            · exact ⟨_, rfl, c1 _ (by decide +kernel) (by decide)⟩
            · exact ⟨_, rfl, n2, by omega⟩
            all_goals exact ⟨_, rfl, cs _ (by decide +kernel) (by decide)⟩
          obtain ⟨d', h1', h2'⟩ := key y H3 ny ly
          exact k _ d' H3 h1' h2' (D2.trans D3)
        · exact ⟨rfl, D1⟩
      | _ => exact ⟨_, rfl, rfl, Drawn.of B⟩
    · rintro σ' H1 ⟨rfl, D1⟩
      have hd1 := hd.fr D1.fr
      refine ⟨_, rfl, _, _, _, _, _, rfl, .ty _, hd1.dx.ty, kit_tupD K d, ?_⟩
      have odd : ∀ {H4 : Hp}, Drawn g H H4 c e → spOdd K [.ref g.b] H4 Q E0 := fun D4 =>
        ⟨g, c, e, rfl, D4.bag, fun v' d' H5 h5 s5 D5 => k v' d' H5 h5 (s5.mono (by omega) (by omega)) (D4.trans D5)⟩
      cases d with
      | tuple ds =>
        obtain ⟨a, xs, rfl, hs, hx⟩ := dx_tup hd rfl
        obtain ⟨N0, rfl⟩ : ∃ N0, N = N0 + 1 := by
          have : PyData.depthAll ds + 1 ≤ N := sz.dp
          exact ⟨N - 1, by omega⟩
        refine ⟨_, rfl, _, rfl, by show 0 ≤ sizeLine; decide, fun p0 hp0 => ?_⟩
        have D2 := D1.new (o := HO.tup []) hp0
        have e2 : Same (hid g.b H) (upd H1 p0 (.tup [])) := (hid_fr D2.fr).trans (hid_same _ _)
        refine ⟨_, _, xs, rfl, rfl, sameT e2 hs, .inl (.inl upd_same), _, rfl, ?_⟩
        refine ite2 (fun h1 => ⟨_, rfl, odd D2⟩) (fun h1 => ?_)
        walk_at "rd"
        refine ite2 (fun h2 => ⟨_, rfl, odd D2⟩) (fun h2 => ?_)
        clear odd
        have x0 : xs ≠ [] := fun z => h1 (decide_eq_true z)
        have len := hx.len
        have sl := szL_len sz.items
        refine ⟨_, rfl, g, 14, c, e, rfl, D2.bag, by decide, by decide, fun way H3 w0 w1 D3 => ?_⟩
        have D4 := D2.trans D3
        have e4 : Same (hid g.b H) H3 := (hid_fr D4.fr).trans (hid_same _ _)
        refine ⟨_, rfl, _, rfl, _, xs.length, rfl, .inr ⟨xs, sameT e4 hs, rfl⟩, ?_⟩
        refine ⟨g, _, c, e, rfl, D4.bag, ?_, by omega, fun r H5 r0 r1 D5 => ?_⟩
        · have := List.length_pos_iff.mpr x0
          omega
        have D6 := D4.trans D5
        clear D1 D2 D3 D4 D5 hp0 e2 e4 hd1
        obtain ⟨j, rfl⟩ := Int.eq_ofNat_of_zero_le r0
        have jl : j < xs.length := by omega
        obtain ⟨y, hy⟩ : ∃ y, xs[j]? = some y := ⟨xs[j], List.getElem?_eq_getElem jl⟩
        obtain ⟨d0, as, bs, rfl, ha, h0, hb⟩ := hx.at hy
        obtain ⟨MA, MB, MC, sa, s0, sb, hMM⟩ := sz.items.at
        have wz : wtxAll (as ++ d0 :: bs) + 4 ≤ M := sz.wz
        have e6 : Same (hid g.b H) H5 := (hid_fr D6.fr).trans (hid_same _ _)
        have q5 : SqT K H5 a xs := sameT e6 hs
        have fin : ∀ {r : Addr} {H7 : Hp} {L : List V} {es : List PyData} {W : Nat}, Drawn g H H7 c e → SqT K H7 r L → DxAll K (hid g.b H7) L es → SzL (N0 + 5) W es → W + 4 ≤ 3 * M + 1000 * (n + 1) → Q (.ref r) H7 := fun {r H7 L es W} D q x z l => by
          obtain ⟨o, ho⟩ := D.bag.ob
          exact k _ (.tuple es) H7 (.tup (sqT_hid ho q) x) ((SzX.tup z).mono (by omega) l) D
        have upq : ∀ {Ha Hb : Hp} {r : Addr} {L : List V}, Bag Ha g c e → Drawn g Ha Hb c e → SqT K Ha r L → SqT K Hb r L := fun {Ha Hb r L} B D q => by
          obtain ⟨o, ho⟩ := B.ob
          exact sameT ((hid_fr D.fr).trans (hid_same _ _)) (sqT_hid ho q)
        have lt : ∀ l : Nat, l ≤ 3000 → l ≤ sizeLine := fun l h => Nat.le_trans h (by decide)
        have lj : (xs.take j).length ≤ 450 := by
          rw [List.length_take]
          omega
        have ld : ∀ i, (xs.drop i).length ≤ 450 := fun i => by
          rw [List.length_drop]
          omega
        have hd0 := cut_fr xs (Nat.le_of_lt jl)
        have hd1 : cutV xs (some ((j : Int) + 1)) none = xs.drop (j + 1) := cut_fr xs (j := j + 1) jl
        have ht0 := cut_to xs (Nat.le_of_lt jl)
        have hc1 := cut_at xs hy
        have dj := drop_at hy
        refine ⟨_, _, rfl, ?_⟩
        walk_at "rd"
        refine ite2 (fun w => ?_) (fun w => ?_)
        · walk_at "rd"
          refine ⟨_, xs, rfl, .inr q5, fun l hl => ?_⟩
          exact k _ _ _ (DX.newL hl (D6.bag.ne_new hl) (DxAll.same (hid_fr D6.fr) hx)) ((SzX.lst sz.items).mono (by omega) (by omega)) (D6.new hl)
        clear w
        walk_at "rd"
        refine ite2 (fun w => ?_) (fun w => ?_)
        · walk_at "rd"
          refine ⟨a, xs, rfl, q5, fun r1 H6 s6 q6 => ?_⟩
          walk_at "rd"
          refine ⟨a, xs, rfl, sameT s6 q5, fun r2 H7 s7 q7 => ?_⟩
          rw [ht0] at q6
          rw [hd1] at q7
          refine ⟨r1, r2, _, _, rfl, rfl, sameT s7 q6, q7, lt _ (by have := ld (j + 1); omega), fun r3 H8 s8 q8 => ?_⟩
          have D8 := D6.trans (.same D6.bag ((s6.trans s7).trans s8))
          exact fin D8 q8 (DxAll.same (hid_fr D8.fr) (ha.app hb)) ((sa.app sb).mono (by omega) (Nat.le_refl _)) (by omega)
        clear w
        walk_at "rd"
        refine ite2 (fun w => ?_) (fun w => ?_)
        · walk_at "rd"
          refine ⟨a, xs, rfl, q5, fun r1 H6 s6 q6 => ?_⟩
          rw [ht0] at q6
          have D7 := D6.trans (.same D6.bag s6)
          walk_at "rd"
          refine ⟨g, c, e, rfl, D7.bag, fun v' d' H8 h8 z8 D8 => ⟨by show 1 ≤ sizeLine; decide, fun p1 hp1 => ?_⟩⟩
          have D9 := (D7.trans D8).new (o := HO.tup [v']) hp1
          refine ⟨r1, p1, _, [v'], rfl, rfl, upq D7.bag (D8.new hp1) q6, .inl (.inl upd_same), lt _ (by show _ + 1 ≤ _; omega), fun r2 H10 s10 q10 => ?_⟩
          have D10 := D9.trans (.same D9.bag s10)
          walk_at "rd"
          refine ⟨a, xs, rfl, sameT ((hid_fr D10.fr).trans (hid_same _ _)) hs, fun r3 H11 s11 q11 => ?_⟩
          rw [hd0, dj] at q11
          have D11 := D10.trans (.same D10.bag s11)
          refine ⟨r2, r3, _, _, rfl, rfl, sameT s11 q10, q11, lt _ (by
            have := ld (j + 1)
            rw [List.length_append]
            show _ + 1 + ((xs.drop (j + 1)).length + 1) ≤ 3000
            omega), fun r4 H12 s12 q12 => ?_⟩
          have s13 : Same (hid g.b H8) (hid g.b H12) := (hid_fr ((Fr.refl _ _).new hp1)).trans ((hid_fr fun _ _ _ h => s10 _ _ h).trans ((hid_fr fun _ _ _ h => s11 _ _ h).trans (hid_fr fun _ _ _ h => s12 _ _ h)))
          have D12 := D11.trans (.same D11.bag s12)
          exact fin D12 q12 (((DxAll.same (hid_fr D12.fr) ha).app (.cons (Dx.same s13 h8) .nil)).app (DxAll.same (hid_fr D12.fr) (.cons h0 hb)))
            (((sa.mono (Nat.le_add_right _ 5) (Nat.le_refl _)).app (SzL.cons (z8.mono (by omega) (Nat.le_refl _)) (SzL.nil (M := 0)))).app ((SzL.cons s0 sb).mono (by omega) (Nat.le_refl _))) (by omega)
        clear w
        walk_at "rd"
        refine ite2 (fun w => ?_) (fun w => ?_)
        · walk_at "rd"
          refine ⟨a, xs, rfl, q5, fun r1 H6 s6 q6 => ?_⟩
          have D7 := D6.trans (.same D6.bag s6)
          exact fin D7 q6 (DxAll.same (hid_fr D7.fr) hx.rev) (sz.items.rev.mono (by omega) (Nat.le_refl _)) (by omega)
        clear w
        walk_at "rd"
        refine ite2 (fun w => ?_) (fun w => ?_)
        · walk_at "rd"
          refine ⟨a, xs, rfl, q5, fun r1 H6 s6 q6 => ?_⟩
          rw [ht0] at q6
          walk_at "rd"
          refine ⟨a, xs, rfl, sameT s6 q5, fun r2 H7 s7 q7 => ?_⟩
          rw [hc1] at q7
          refine ⟨r1, r2, _, _, rfl, rfl, sameT s7 q6, q7, lt _ (by show _ + 1 ≤ _; omega), fun r3 H8 s8 q8 => ?_⟩
          walk_at "rd"
          refine ⟨a, xs, rfl, sameT ((s6.trans s7).trans s8) q5, fun r4 H9 s9 q9 => ?_⟩
          rw [hd0, dj] at q9
          refine ⟨r3, r4, _, _, rfl, rfl, sameT s9 q8, q9, lt _ (by
            have := ld (j + 1)
            rw [List.length_append]
            show _ + 1 + ((xs.drop (j + 1)).length + 1) ≤ 3000
            omega), fun r5 H10 s10 q10 => ?_⟩
          have D10 := D6.trans (.same D6.bag ((((s6.trans s7).trans s8).trans s9).trans s10))
          exact fin D10 q10 (DxAll.same (hid_fr D10.fr) ((ha.app (.cons h0 .nil)).app (.cons h0 hb)))
            (((sa.app (SzL.cons s0 (SzL.nil (M := 0)))).app (SzL.cons s0 sb)).mono (by omega) (Nat.le_refl _)) (by omega)
        clear w
        walk_at "rd"
        refine ⟨a, xs, rfl, q5, fun r1 H6 s6 q6 => ?_⟩
        rw [ht0] at q6
        have D7 := D6.trans (.same D6.bag s6)
        obtain ⟨n', rfl⟩ : ∃ n', n = n' + 1 := by
          cases n with
          | zero => exact absurd (decide_eq_true rfl) h2
          | succ n' => exact ⟨n', rfl⟩
        walk_at "rd"
        refine ⟨_, _, _, _, rfl, rfl, sameT s6 q5, atI_nat hy, ?_⟩
        walk_at "rd"
        refine ⟨g, y, d0, n', c, e, N0, MB, by
          show [V.ref g.b, y, V.int (((n' + 1 : Nat) : Int) - 1)] = [V.ref g.b, y, V.int (n' : Int)]
          rw [show (((n' + 1 : Nat) : Int) - 1) = (n' : Int) by omega], by omega, D7.bag, Dx.same (hid_fr D7.fr) h0, s0, by omega, fun v' d' H8 h8 z8 D8 => ⟨by show 1 ≤ sizeLine; decide, fun p1 hp1 => ?_⟩⟩
        have D9 := (D7.trans D8).new (o := HO.tup [v']) hp1
        refine ⟨r1, p1, _, [v'], rfl, rfl, upq D7.bag (D8.new hp1) q6, .inl (.inl upd_same), lt _ (by show _ + 1 ≤ _; omega), fun r2 H10 s10 q10 => ?_⟩
        have D10 := D9.trans (.same D9.bag s10)
        walk_at "rd"
        refine ⟨a, xs, rfl, sameT ((hid_fr D10.fr).trans (hid_same _ _)) hs, fun r3 H11 s11 q11 => ?_⟩
        rw [hd1] at q11
        have D11 := D10.trans (.same D10.bag s11)
        refine ⟨r2, r3, _, _, rfl, rfl, sameT s11 q10, q11, lt _ (by
          have := ld (j + 1)
          rw [List.length_append]
          show _ + 1 + _ ≤ _
          omega), fun r4 H12 s12 q12 => ?_⟩
        have s13 : Same (hid g.b H8) (hid g.b H12) := (hid_fr ((Fr.refl _ _).new hp1)).trans ((hid_fr fun _ _ _ h => s10 _ _ h).trans ((hid_fr fun _ _ _ h => s11 _ _ h).trans (hid_fr fun _ _ _ h => s12 _ _ h)))
        have D12 := D11.trans (.same D11.bag s12)
        exact fin D12 q12 (((DxAll.same (hid_fr D12.fr) ha).app (.cons (Dx.same s13 h8) .nil)).app (DxAll.same (hid_fr D12.fr) hb))
          (((sa.mono (Nat.le_add_right _ 5) (Nat.le_refl _)).app (SzL.cons z8 (SzL.nil (M := 0)))).app (sb.mono (by omega) (Nat.le_refl _))) (by omega)
      | _ => exact ⟨_, rfl, _, rfl, odd D1⟩

/-- the addresses of the classes -/
structure Er8 where
  W : Addr
  F : Addr
  N : Addr
  T : Addr
  C : Addr
  P : Addr
  O : Addr
  D : Addr
  L : Addr
def Er8.at (E : Er8) : Nat → Addr
  | 0 => E.W
  | 1 => E.F
  | 2 => E.N
  | 3 => E.T
  | 4 => E.C
  | 5 => E.P
  | 6 => E.O
  | _ => E.D
def excB (K : PySem.W.Frag) (C : Addr) : Bool :=
  (decide (PySem.W.findIn K (.ref C) "__getattribute__" = some (some (.builtin "BaseException.__getattribute__"))) && decide (PySem.W.findIn K (.ref C) "__getattr__" = some none)) &&
  ((decide (PySem.W.subIn K (.ref C) (.type "BaseException") = some true) && PySem.W.hasDictIn K C) &&
  ((decide (PySem.W.findIn K (.ref C) "__class__" = some (some (.builtin "object.__class__"))) && decide (PySem.W.specialIn K (.builtin "object.__class__") "__get__" = some (some (.builtin "getset_descriptor.__get__")))) &&
  (decide (PySem.W.takesIn K (.builtin "object.__class__") = some true) && decide (PySem.W.mroIn K C (.type "object") = some true))))
theorem excB_ok {C : Addr} (h : excB K C = true) : ExcC K C := by
  unfold excB at h
  simp only [Bool.and_eq_true, decide_eq_true_eq] at h
  obtain ⟨⟨h1, h2⟩, ⟨h3, h4⟩, ⟨h5, h6⟩, h7, h8⟩ := h
  exact ⟨h1, h2, h3, h4, h5, h6, h7, h8⟩
def erAll (K : PySem.W.Frag) (E : Er8) : Bool := (List.range 8).all fun i => excB K (E.at i) && ((decide (PySem.W.kitOne K (.ref (E.at i)) (.ref E.L) = some true) && decide (PySem.W.kitOne K (.ref (E.at i)) (.type "ValueError") = some true)) &&
  (List.range 8).all fun j => decide (PySem.W.kitOne K (.ref (E.at i)) (.ref (E.at j)) = some (decide (i = j))))
def bmV : List Value := [.type "ValueError", .type "Exception", .type "BaseException", .type "object"]
structure ErOk (P : Program) (w : World) (K : PySem.W.Frag) (mg : Str → Option Value) (base : Heap) (E : Er8) : Prop where
  rW : XcR P w K mg base "Wrong" "place" E.W
  rF : XcR P w K mg base "Faulty" "faults" E.F
  rN : XcR P w K mg base "NoStyle" "line" E.N
  rT : XcR P w K mg base "TooMany" "most" E.T
  rC : XcR P w K mg base "NoChange" "change" E.C
  rP : XcR P w K mg base "NoFile" "path" E.P
  nO : XcN K mg "Nothing" E.O bmV "ValueError.__new__"
  nD : XcN K mg "NoCommand" E.D bmV "ValueError.__new__"
  gL : mg "LaidError" = some (.ref E.L)
  al : erAll K E = true
theorem xcR_gl {x fld : Str} {C : Addr} (h : XcR P w K mg base x fld C) : mg x = some (.ref C) := by
  obtain ⟨_, _, T, _⟩ := h.ex
  exact T.gl
theorem xcR_xf {x fld : Str} {C : Addr} (h : XcR P w K mg base x fld C) : XfC K C ∧ PySem.W.findIn K (.ref C) fld = some none := by
  obtain ⟨_, _, T, _⟩ := h.ex
  exact ⟨T.xf, T.no⟩
section
variable {E8 : Er8}
theorem ErOk.gW (h : ErOk P w K mg base E8) : mg "Wrong" = some (.ref E8.W) := xcR_gl h.rW
theorem ErOk.gF (h : ErOk P w K mg base E8) : mg "Faulty" = some (.ref E8.F) := xcR_gl h.rF
theorem ErOk.gN (h : ErOk P w K mg base E8) : mg "NoStyle" = some (.ref E8.N) := xcR_gl h.rN
theorem ErOk.gT (h : ErOk P w K mg base E8) : mg "TooMany" = some (.ref E8.T) := xcR_gl h.rT
theorem ErOk.gC (h : ErOk P w K mg base E8) : mg "NoChange" = some (.ref E8.C) := xcR_gl h.rC
theorem ErOk.gP (h : ErOk P w K mg base E8) : mg "NoFile" = some (.ref E8.P) := xcR_gl h.rP
theorem ErOk.gO (h : ErOk P w K mg base E8) : mg "Nothing" = some (.ref E8.O) := h.nO.gl
theorem ErOk.gD (h : ErOk P w K mg base E8) : mg "NoCommand" = some (.ref E8.D) := h.nD.gl
theorem ErOk.ask (h : ErOk P w K mg base E8) {i : Nat} (hi : i < 8) : ExcC K (E8.at i) ∧ PySem.W.kitOne K (.ref (E8.at i)) (.ref E8.L) = some true ∧ PySem.W.kitOne K (.ref (E8.at i)) (.type "ValueError") = some true ∧
    ∀ j, j < 8 → PySem.W.kitOne K (.ref (E8.at i)) (.ref (E8.at j)) = some (decide (i = j)) := by
  have x := List.all_eq_true.mp (show ((List.range 8).all fun i => _) = true from h.al) i (List.mem_range.mpr hi)
  obtain ⟨x1, x⟩ := Bool.and_eq_true_iff.mp x
  obtain ⟨x2, x3⟩ := Bool.and_eq_true_iff.mp x
  obtain ⟨x4, x5⟩ := Bool.and_eq_true_iff.mp x2
  exact ⟨excB_ok x1, of_decide_eq_true x4, of_decide_eq_true x5, fun j hj => of_decide_eq_true (List.all_eq_true.mp x3 j (List.mem_range.mpr hj))⟩
end
/-- errors of all eight classes, made of x and y -/
structure Ers (E : Er8) (H : Hp) (a0 a1 a2 a3 a4 a5 a6 a7 : Addr) (x y : V) : Prop where
  e0 : ErA H a0 E.W [("place", x)]
  e1 : ErA H a1 E.F [("faults", y)]
  e2 : ErA H a2 E.N [("line", x)]
  e3 : ErA H a3 E.T [("most", y)]
  e4 : ErA H a4 E.C [("change", x)]
  e5 : ErA H a5 E.P [("path", y)]
  e6 : ErA H a6 E.O []
  e7 : ErA H a7 E.D []
theorem Ers.same {E : Er8} {H H' : Hp} {a0 a1 a2 a3 a4 a5 a6 a7 : Addr} {x y : V} (e : Same H H') (h : Ers E H a0 a1 a2 a3 a4 a5 a6 a7 x y) : Ers E H' a0 a1 a2 a3 a4 a5 a6 a7 x y :=
  ⟨h.e0.same e, h.e1.same e, h.e2.same e, h.e3.same e, h.e4.same e, h.e5.same e, h.e6.same e, h.e7.same e⟩
def spBuilt (E8 : Er8) : Sp := fun vs H Q _ => ∃ (x y : V), vs = [x, y] ∧ ∀ (p a0 a1 a2 a3 a4 a5 a6 a7 : Addr) (H' : Hp), H p = none → Same H H' → H' p = some (.lst [.ref a0, .ref a1, .ref a2, .ref a3, .ref a4, .ref a5, .ref a6, .ref a7]) →
  Ers E8 H' a0 a1 a2 a3 a4 a5 a6 a7 x y → Q (.ref p) H'
theorem c_l_built (T : Txt K mg w) {E8 : Er8} (EO : ErOk P w K mg base E8) : Cal P w K mg base 3 "_law_built" (spBuilt E8) [] := by
  refine calOf T.d_l_built sc_l_built (fun vs H Q E h => ?_) (fun f cdv A outer s H vs Q E hr h => ?_)
  · obtain ⟨x, y, rfl, _⟩ := h
    rfl
  · obtain ⟨x, y, rfl, k⟩ := h
    refine ⟨_,
      (pss_cons (ps_set (i := 2) sc_l_built.nd rfl (Or.inl rfl) (pe_lst (pa_cons (pe_errX EO.rW hr (by decide) (pa_cons (pv 0) pa_nil)) (pa_cons (pe_errX EO.rF hr (by decide) (pa_cons (pv 1) pa_nil)) (pa_cons (pe_errX EO.rN hr (by decide) (pa_cons (pv 0) pa_nil)) (pa_cons (pe_errX EO.rT hr (by decide) (pa_cons (pv 1) pa_nil)) (pa_cons (pe_errX EO.rC hr (by decide) (pa_cons (pv 0) pa_nil)) (pa_cons (pe_errX EO.rP hr (by decide) (pa_cons (pv 1) pa_nil)) pa_nil))))))))
        (pss_one (ps_ret (pe_op op_cat (pv 2) (pe_lst (pa_cons (pe_err0 PySem.F.excBase_ValueError EO.nO) (pa_cons (pe_err0 PySem.F.excBase_ValueError EO.nD) pa_nil)))))))
      , ?_⟩
    refine ⟨_, rfl, x, rfl, fun a0 H0 n0 s0 e0 => ?_⟩
    refine ⟨_, rfl, y, rfl, fun a1 H1 n1 s1 e1 => ?_⟩
    refine ⟨_, rfl, x, rfl, fun a2 H2 n2 s2 e2 => ?_⟩
    refine ⟨_, rfl, y, rfl, fun a3 H3 n3 s3 e3 => ?_⟩
    refine ⟨_, rfl, x, rfl, fun a4 H4 n4 s4 e4 => ?_⟩
    refine ⟨_, rfl, y, rfl, fun a5 H5 n5 s5 e5 => ?_⟩
    refine ⟨by show 6 ≤ sizeLine; decide, fun p1 hp1 => ?_⟩
    refine ⟨_, rfl, fun a6 n6 a7 n7 => ?_⟩
    refine ⟨by show 2 ≤ sizeLine; decide, fun p2 hp2 => ⟨_, _, _, _, rfl, rfl, upd_some (upd_some (upd_some upd_same n6) n7) hp2, upd_same, by show 6 + 2 ≤ sizeLine; decide, fun p3 hp3 => ?_⟩⟩
    have t5 : Same H5 (upd H5 p1 _) := same_new (o := .lst [.ref a0, .ref a1, .ref a2, .ref a3, .ref a4, .ref a5]) hp1
    have t6 := same_new (o := exo a6 E8.O none) n6
    have t7 := same_new (o := exo a7 E8.D none) n7
    have t8 := same_new (o := HO.lst [.ref a6, .ref a7]) hp2
    have t9 := same_new (o := HO.lst ([.ref a0, .ref a1, .ref a2, .ref a3, .ref a4, .ref a5] ++ [.ref a6, .ref a7])) hp3
    have u8 := t8.trans t9
    have u7 := t7.trans u8
    have u6 := t6.trans u7
    have u5 := t5.trans u6
    have u4 := s5.trans u5
    have u3 := s4.trans u4
    have u2 := s3.trans u3
    have u1 := s2.trans u2
    have u0 := s1.trans u1
    exact k p3 a0 a1 a2 a3 a4 a5 a6 a7 _ ((s0.trans (s1.trans (s2.trans (s3.trans (s4.trans (s5.trans (t5.trans (t6.trans (t7.trans t8))))))))).free hp3) (s0.trans u0) upd_same
      ⟨e0.same u0, e1.same u1, e2.same u2, e3.same u3, e4.same u4, e5.same u5, .inl ⟨rfl, u7 _ _ upd_same⟩, .inl ⟨rfl, u8 _ _ upd_same⟩⟩
/-- of its own class only -/
def spKinds (E8 : Er8) : Sp := fun vs H Q _ => ∃ (a : Addr) (i : Nat) (fs : List (Str × V)), vs = [.ref a] ∧ i < 8 ∧ ErA H a (E8.at i) fs ∧ ∀ (p : Addr) (H' : Hp), H p = none → Same H H' → H' p = some (.lst ((List.range 8).map fun j => .bl (decide (i = j)))) → Q (.ref p) H'
theorem c_l_kinds (T : Txt K mg w) {E8 : Er8} (EO : ErOk P w K mg base E8) : Cal P w K mg base 1 "_law_kinds" (spKinds E8) [] := by
  refine calOf T.d_l_kinds sc_l_kinds (fun vs H Q E h => ?_) (fun f cdv A outer s H vs Q E hr h => ?_)
  · obtain ⟨a, i, fs, rfl, _⟩ := h
    rfl
  · obtain ⟨a, i, fs, rfl, hi, er, k⟩ := h
    obtain ⟨xc, _, _, kj⟩ := EO.ask hi
    refine ⟨_,
      (pss_cons (ps_set (i := 1) sc_l_kinds.nd rfl (Or.inl rfl) (pe_lst (pa_cons (pe_callB call_isO (by rfl) T.n_isinstance (by decide +kernel) (pa_cons (pv 0) (pa_cons (pe_gc (v := V.ref E8.W) rfl ⟨_, EO.gW, rfl⟩) pa_nil))) (pa_cons (pe_callB call_isO (by rfl) T.n_isinstance (by decide +kernel) (pa_cons (pv 0) (pa_cons (pe_gc (v := V.ref E8.F) rfl ⟨_, EO.gF, rfl⟩) pa_nil))) (pa_cons (pe_callB call_isO (by rfl) T.n_isinstance (by decide +kernel) (pa_cons (pv 0) (pa_cons (pe_gc (v := V.ref E8.N) rfl ⟨_, EO.gN, rfl⟩) pa_nil))) pa_nil)))))
        (pss_cons (ps_set (i := 1) sc_l_kinds.nd rfl (Or.inl rfl) (pe_op op_cat (pv 1) (pe_lst (pa_cons (pe_callB call_isO (by rfl) T.n_isinstance (by decide +kernel) (pa_cons (pv 0) (pa_cons (pe_gc (v := V.ref E8.T) rfl ⟨_, EO.gT, rfl⟩) pa_nil))) (pa_cons (pe_callB call_isO (by rfl) T.n_isinstance (by decide +kernel) (pa_cons (pv 0) (pa_cons (pe_gc (v := V.ref E8.C) rfl ⟨_, EO.gC, rfl⟩) pa_nil))) (pa_cons (pe_callB call_isO (by rfl) T.n_isinstance (by decide +kernel) (pa_cons (pv 0) (pa_cons (pe_gc (v := V.ref E8.P) rfl ⟨_, EO.gP, rfl⟩) pa_nil))) pa_nil))))))
        (pss_one (ps_ret (pe_op op_cat (pv 1) (pe_lst (pa_cons (pe_callB call_isO (by rfl) T.n_isinstance (by decide +kernel) (pa_cons (pv 0) (pa_cons (pe_gc (v := V.ref E8.O) rfl ⟨_, EO.gO, rfl⟩) pa_nil))) (pa_cons (pe_callB call_isO (by rfl) T.n_isinstance (by decide +kernel) (pa_cons (pv 0) (pa_cons (pe_gc (v := V.ref E8.D) rfl ⟨_, EO.gD, rfl⟩) pa_nil))) pa_nil))))))))
      , ?_⟩
    refine ⟨_, rfl, a, _, fs, _, _, _, rfl, .own _, er, xc, kj 0 (by decide), ?_⟩
    refine ⟨_, rfl, a, _, fs, _, _, _, rfl, .own _, er, xc, kj 1 (by decide), ?_⟩
    refine ⟨_, rfl, a, _, fs, _, _, _, rfl, .own _, er, xc, kj 2 (by decide), ?_⟩
    refine ⟨by show 3 ≤ sizeLine; decide, fun p1 hp1 => ?_⟩
    have s1 := same_new (o := HO.lst [.bl (decide (i = 0)), .bl (decide (i = 1)), .bl (decide (i = 2))]) hp1
    have er1 := er.same s1
    refine ⟨_, rfl, _, rfl, a, _, fs, _, _, _, rfl, .own _, er1, xc, kj 3 (by decide), ?_⟩
    refine ⟨_, rfl, a, _, fs, _, _, _, rfl, .own _, er1, xc, kj 4 (by decide), ?_⟩
    refine ⟨_, rfl, a, _, fs, _, _, _, rfl, .own _, er1, xc, kj 5 (by decide), ?_⟩
    refine ⟨by show 3 ≤ sizeLine; decide, fun p2 hp2 => ⟨_, _, _, _, rfl, rfl, upd_some upd_same hp2, upd_same, by show 3 + 3 ≤ sizeLine; decide, fun p3 hp3 => ?_⟩⟩
    have s2 := same_new (o := HO.lst [.bl (decide (i = 3)), .bl (decide (i = 4)), .bl (decide (i = 5))]) hp2
    have s3 := same_new (o := HO.lst ([.bl (decide (i = 0)), .bl (decide (i = 1)), .bl (decide (i = 2))] ++ [.bl (decide (i = 3)), .bl (decide (i = 4)), .bl (decide (i = 5))])) hp3
    have er3 := er1.same (s2.trans s3)
    refine ⟨_, rfl, _, rfl, a, _, fs, _, _, _, rfl, .own _, er3, xc, kj 6 (by decide), ?_⟩
    refine ⟨_, rfl, a, _, fs, _, _, _, rfl, .own _, er3, xc, kj 7 (by decide), ?_⟩
    refine ⟨by show 2 ≤ sizeLine; decide, fun p4 hp4 => ⟨_, _, _, _, rfl, rfl, upd_some upd_same hp4, upd_same, by show 6 + 2 ≤ sizeLine; decide, fun p5 hp5 => ?_⟩⟩
    have s4 := same_new (o := HO.lst [.bl (decide (i = 6)), .bl (decide (i = 7))]) hp4
    have s5 := s1.trans (s2.trans (s3.trans s4))
    exact k p5 _ (s5.free hp5) (s5.trans (same_new hp5)) upd_same

/-- each error of its own class -/
def IsE8 (E8 : Er8) (H : Hp) (l : List Addr) : Prop := ∀ i a, l[i]? = some a → i < 8 ∧ ∃ fs, ErA H a (E8.at i) fs
theorem Ers.is8 {E : Er8} {H : Hp} {a0 a1 a2 a3 a4 a5 a6 a7 : Addr} {x y : V} (h : Ers E H a0 a1 a2 a3 a4 a5 a6 a7 x y) : IsE8 E H [a0, a1, a2, a3, a4, a5, a6, a7] := fun i a e => by
  have l : i < 8 := (List.getElem?_eq_some_iff.mp e).1
  refine ⟨l, ?_⟩
  rcases i with _ | _ | _ | _ | _ | _ | _ | _ | i
  · cases e; exact ⟨_, h.e0⟩
  · cases e; exact ⟨_, h.e1⟩
  · cases e; exact ⟨_, h.e2⟩
  · cases e; exact ⟨_, h.e3⟩
  · cases e; exact ⟨_, h.e4⟩
  · cases e; exact ⟨_, h.e5⟩
  · cases e; exact ⟨_, h.e6⟩
  · cases e; exact ⟨_, h.e7⟩
  · omega
def spApart (E8 : Er8) : Sp := fun vs H Q _ => ∃ (p : Addr) (l : List Addr), vs = [.ref p] ∧ H p = some (.lst (l.map V.ref)) ∧ l.length = 8 ∧ IsE8 E8 H l ∧ ∀ H', Same H H' → Q (.bl true) H'
theorem c_l_are_apart (T : Txt K mg w) {E8 : Er8} (EO : ErOk P w K mg base E8) (c_l_kinds : Cal P w K mg base 1 "_law_kinds" (spKinds E8) []) : Cal P w K mg base 2 "_law_are_apart" (spApart E8) [] := by
  refine calOf T.d_l_are_apart sc_l_are_apart (fun vs H Q E h => ?_) (fun f cdv A outer s H vs Q E hr h => ?_)
  · obtain ⟨p, l, rfl, _⟩ := h
    rfl
  · obtain ⟨p, l, rfl, hp, hl, is8, k⟩ := h
    refine ⟨_,
      (pss_cons (ps_for PassesOwn.never rfl (pi_enum (by rfl) T.n_enumerate (pa_cons (pv 0) pa_nil)) (pg_tup rfl (pgs_cons (pg_name (i := 1) sc_l_are_apart.nd rfl (Or.inr rfl)) (pgs_cons (pg_name (i := 2) sc_l_are_apart.nd rfl (Or.inl rfl)) pgs_nil)))
        (pss_cons (ps_if (PW.pt (pw_or (pt_not (pt_val (pe_callB call_isO (by rfl) T.n_isinstance (by decide +kernel) (pa_cons (pv 2) (pa_cons (pe_gc (v := V.ref E8.L) rfl ⟨_, EO.gL, rfl⟩) pa_nil))))) (pw_or1 (pt_not (pt_val (pe_callB call_isO (by rfl) T.n_isinstance (by decide +kernel) (pa_cons (pv 2) (pa_cons (pe_bltn (v := V.ty "ValueError") (by rfl) T.n_ValueError (by decide +kernel) rfl) pa_nil))))))))
        (pss_one (ps_ret pe_bl))
        pss_nil)
        (pss_one (ps_if (pt_cmpR (op_neD hr.units) (pe_c c_l_kinds hr (by first | decide | omega) rfl (pa_cons (pv 2) pa_nil)) (pe_lc (own := [("_law_index", 3)]) (g := gName 3) (tt := tYes) rfl sc_l_are_apart.nd (pi_range1 (by rfl) T.n_range (pa_cons (pe_callB call_len (by rfl) T.n_len PySem.boot_len (pa_cons (pv 0) pa_nil)) pa_nil)) (blkOk_by (N := ["_law_some", "_law_at", "_law_error", "_law_index"]) (sc := defScope s_l_are_apart) (by decide +kernel)) (fun _ _ _ _ _ => pg_name (i := 3) sc_l_are_apart.nd rfl (Or.inl rfl)) (fun _ _ _ _ _ => pts_nil) (fun _ _ _ _ _ => (pe_cmpR op_eq (pv 3) (pv 1) (nomark _)))) (nomark _))
        (pss_one (ps_ret pe_bl))
        pss_nil))))
        (pss_one (ps_ret pe_bl)))
      , ?_⟩
    refine ⟨_, rfl, p, _, rfl, SqL.of hp, for_it (walk_enum (K := K) (a := p) (xs := l.map V.ref)) (fun i σ H' => ∃ (v1 v2 v3 : Option V), σ = [some (.ref p), v1, v2, v3] ∧ Same H H') ⟨none, none, none, rfl, Same.refl H⟩ (fun i σ' H' _ ⟨_, _, _, _, sm⟩ => SqL.of (sm _ _ hp)) ?_ ?_⟩
    · rintro i x σ' H4 H5 hi ⟨v1, v2, v3, rfl, sm⟩ ⟨T1, x1, x2, rfl, hT, rfl, hx1, hx2⟩
      cases hx1
      have hx2 : (l.map V.ref)[i]? = some x2 := hx2
      rw [List.getElem?_map] at hx2
      obtain ⟨a, ha, rfl⟩ := Option.map_eq_some_iff.mp hx2
      obtain ⟨i8, fs, er⟩ := is8 i a ha
      obtain ⟨xc, kL, kV, _⟩ := EO.ask i8
      have s5 := sm.trans (same_new (o := .tup [.int (i : Nat), .ref a]) hT)
      have er5 := er.same s5
      refine ⟨T1, _, rfl, SqT.of upd_same, rfl, _, _, rfl, _, _, rfl, rfl, ?_⟩
      refine ⟨_, rfl, a, _, fs, _, _, _, rfl, .own _, er5, xc, kL, _, rfl, ?_⟩
      refine ⟨_, rfl, a, _, fs, _, _, _, rfl, .ty _, er5, xc, kV, _, rfl, ?_⟩
      refine ⟨_, rfl, a, i, fs, rfl, i8, er5, fun p2 H6 hp2 s6 h6 => ?_⟩
      have hp6 := (s5.trans s6) _ _ hp
      refine ⟨_, rfl, _, 8, rfl, .inl ⟨_, SqL.of hp6, by rw [List.length_map, hl]⟩, _, rfl, by decide, by decide, fun D hD => ?_⟩
      refine lc_range (lo := 0) (n := (8 : Int).toNat) (fun j H' => Same H6 H' ∧ H' D = some (.lst ((List.range j).map fun j => .bl (decide (i = j))))) ⟨same_new hD, upd_same⟩ ?_ ?_
      · rintro j H7 hj ⟨s7, hD7⟩
        refine ⟨rfl, ?_⟩
        walk_at "rd"
        refine ⟨_, hD7, ?_, same_put s7 hD, ?_⟩
        · rw [List.length_map, List.length_range]
          exact Nat.lt_of_lt_of_le hj (by decide)
        · have e : decide (V.int (0 + (j : Nat)) = V.int (i : Nat)) = decide (i = j) := decide_eq_decide.mpr ⟨fun z => by
            have z := V.int.inj z
            omega, fun z => by rw [z, Int.zero_add]⟩
          rw [List.range_succ, List.map_append, e]
          exact upd_same
      · rintro H7 ⟨s7, hD7⟩
        have db : ∀ (L : List Nat), DpAll K H7 (L.map fun j => .bl (decide (i = j))) (L.map fun j => .bool (decide (i = j))) := fun L => by
          induction L with
          | nil => exact .nil
          | cons x r ih => exact .cons (.bl _) ih
        refine ⟨_, _, .lst (SqL.of (s7 _ _ h6)) (db _), .lst (SqL.of hD7) (db _), rfl, rfl, _, rfl, ?_⟩
        have e : PyData.eqv (.list ((List.range 8).map fun j => .bool (decide (i = j)))) (.list ((List.range 8).map fun j => .bool (decide (i = j)))) = true := SeqAt.eqv_refl _ rfl
        refine ite2 (fun z => absurd z (by rw [show (Int.toNat 8) = 8 from rfl, e] <;> decide)) (fun _ => ?_)
        exact ⟨_, _, _, rfl, s5.trans (s6.trans s7)⟩
    · rintro σ' H1 ⟨v1, v2, v3, rfl, sm⟩
      exact k _ sm

theorem c_l_alike (T : Txt K mg w) (sb : ∃ o, base.get? sysModules = some o ∧ o.cls = .type "dict") : CalG P w K mg base 1 "_law_alike" (spAlikeX K) := by
  refine calGOf T.d_l_alike sc_l_alike (fun vs H Q E h => ?_) (fun f cdv A outer s H vs Q E hr gd h => ?_)
  · obtain ⟨a, b, d, rfl, _⟩ := h
    rfl
  · obtain ⟨a, b, d, rfl, ha, hb, ok, k⟩ := h
    refine ⟨_,
      (pss_one (ps_ret (pe_and (pe_cmpR (op_eqX hr.units) (pv 0) (pv 1) (nomark _)) (pe_one (pe_cmpR op_eq (pe_callB (call_reprO (u65 hr) gd sb) (by rfl) T.n_repr (by decide +kernel) (pa_cons (pv 0) pa_nil)) (pe_callB (call_reprO (u65 hr) gd sb) (by rfl) T.n_repr (by decide +kernel) (pa_cons (pv 1) pa_nil)) (nomark _))))))
      , ?_⟩
    refine ⟨_, rfl, _, rfl, a, b, d, rfl, rfl, ha, hb, ok.dp, _, rfl, ?_⟩
    refine iteT ⟨_, rfl, a, d, rfl, ha, ok, _, rfl, b, d, rfl, hb, ok, rfl, ?_⟩
    exact (by
      rw [show (decide (V.str (PyData.shown d) = V.str (PyData.shown d))) = true from decide_eq_true rfl]
      exact k _ (Same.refl _))
/-- the fields of errors -/
def spFields (E8 : Er8) : Sp := fun vs H Q _ => ∃ (p a0 a1 a2 a3 a4 a5 a6 a7 : Addr) (x y : V), vs = [.ref p] ∧ H p = some (.lst [.ref a0, .ref a1, .ref a2, .ref a3, .ref a4, .ref a5, .ref a6, .ref a7]) ∧ Ers E8 H a0 a1 a2 a3 a4 a5 a6 a7 x y ∧
  ∀ p', H p' = none → Q (.ref p') (upd H p' (.lst [x, y, x, y, x, y]))
theorem c_l_fields (T : Txt K mg w) {E8 : Er8} (EO : ErOk P w K mg base E8) : Cal P w K mg base 1 "_law_fields" (spFields E8) [] := by
  refine calOf T.d_l_fields sc_l_fields (fun vs H Q E h => ?_) (fun f cdv A outer s H vs Q E hr h => ?_)
  · obtain ⟨p, a0, a1, a2, a3, a4, a5, a6, a7, x, y, rfl, _⟩ := h
    rfl
  · obtain ⟨p, a0, a1, a2, a3, a4, a5, a6, a7, x, y, rfl, hp, es, k⟩ := h
    refine ⟨_,
      (pss_one (ps_ret (pe_lst (pa_cons (pe_erf (pe_ix ix_list (pv 0) pe_int (fun _ _ => rfl))) (pa_cons (pe_erf (pe_ix ix_list (pv 0) pe_int (fun _ _ => rfl))) (pa_cons (pe_erf (pe_ix ix_list (pv 0) pe_int (fun _ _ => rfl))) (pa_cons (pe_erf (pe_ix ix_list (pv 0) pe_int (fun _ _ => rfl))) (pa_cons (pe_erf (pe_ix ix_list (pv 0) pe_int (fun _ _ => rfl))) (pa_cons (pe_erf (pe_ix ix_list (pv 0) pe_int (fun _ _ => rfl))) pa_nil)))))))))
      , ?_⟩
    have W := xcR_xf EO.rW
    have F := xcR_xf EO.rF
    have N := xcR_xf EO.rN
    have T' := xcR_xf EO.rT
    have C := xcR_xf EO.rC
    have P' := xcR_xf EO.rP
    refine ⟨_, rfl, _, _, _, _, rfl, rfl, SqL.of hp, atI_nat (j := 0) rfl, a0, _, _, x, rfl, es.e0, W.1, W.2, rfl, ?_⟩
    refine ⟨_, rfl, _, _, _, _, rfl, rfl, SqL.of hp, atI_nat (j := 1) rfl, a1, _, _, y, rfl, es.e1, F.1, F.2, rfl, ?_⟩
    refine ⟨_, rfl, _, _, _, _, rfl, rfl, SqL.of hp, atI_nat (j := 2) rfl, a2, _, _, x, rfl, es.e2, N.1, N.2, rfl, ?_⟩
    refine ⟨_, rfl, _, _, _, _, rfl, rfl, SqL.of hp, atI_nat (j := 3) rfl, a3, _, _, y, rfl, es.e3, T'.1, T'.2, rfl, ?_⟩
    refine ⟨_, rfl, _, _, _, _, rfl, rfl, SqL.of hp, atI_nat (j := 4) rfl, a4, _, _, x, rfl, es.e4, C.1, C.2, rfl, ?_⟩
    refine ⟨_, rfl, _, _, _, _, rfl, rfl, SqL.of hp, atI_nat (j := 5) rfl, a5, _, _, y, rfl, es.e5, P'.1, P'.2, rfl, ?_⟩
    exact ⟨by show 6 ≤ sizeLine; decide, fun p' hp' => k p' hp'⟩
theorem erA_fr {b : Addr} {H H' : Hp} {a C : Addr} {fs : List (Str × V)} (f : Fr b H H') (n : ∀ P : Heap → Prop, H b ≠ some (.ext P)) (h : ErA H a C fs) : ErA H' a C fs := by
  have up : ∀ {q : Addr} {P : Heap → Prop}, H q = some (.ext P) → H' q = some (.ext P) := fun {q P} e => f _ _ (fun z => n P (z ▸ e)) e
  rcases h with ⟨h1, h2⟩ | ⟨d, h1, h2⟩
  · exact .inl ⟨h1, up h2⟩
  · exact .inr ⟨d, up h1, up h2⟩
theorem ers_fr {E : Er8} {b : Addr} {H H' : Hp} {a0 a1 a2 a3 a4 a5 a6 a7 : Addr} {x y : V} (f : Fr b H H') (n : ∀ P : Heap → Prop, H b ≠ some (.ext P)) (h : Ers E H a0 a1 a2 a3 a4 a5 a6 a7 x y) : Ers E H' a0 a1 a2 a3 a4 a5 a6 a7 x y :=
  ⟨erA_fr f n h.e0, erA_fr f n h.e1, erA_fr f n h.e2, erA_fr f n h.e3, erA_fr f n h.e4, erA_fr f n h.e5, erA_fr f n h.e6, erA_fr f n h.e7⟩
theorem alike_step {E8 : Er8} {σ : L2.St} {D : Ends} {G : Hp} {iu iv : Nat} {p1 p2 a0 a1 a2 a3 a4 a5 a6 a7 b0 b1 b2 b3 b4 b5 b6 b7 : Addr} {u v : V} {du dv : PyData} {N M : Nat}
    (h5 : σ[5]? = some (some (.ref p1))) (h6 : σ[6]? = some (some (.ref p2))) (hu : σ[iu]? = some (some u)) (hv : σ[iv]? = some (some v))
    (q5 : G p1 = some (.lst [.ref a0, .ref a1, .ref a2, .ref a3, .ref a4, .ref a5, .ref a6, .ref a7])) (es : Ers E8 G a0 a1 a2 a3 a4 a5 a6 a7 u v)
    (q6 : G p2 = some (.lst [.ref b0, .ref b1, .ref b2, .ref b3, .ref b4, .ref b5, .ref b6, .ref b7])) (fs : Ers E8 G b0 b1 b2 b3 b4 b5 b6 b7 v u)
    (xu : Dx K G u du) (xv : Dx K G v dv) (zu : SzX N M du) (zv : SzX N M dv) (hN : N ≤ 50) (hM : M ≤ 100000) (k : ∀ H', Same G H' → D.nx σ H') :
    tIfS (tNot (tB (tCall (spAlikeX K) [] E0 (tCons (tLst (tCons (tCall (spFields E8) [] C8.E0 (tCons (tVar 5) tNil)) (tCons (tCall (spFields E8) [] C8.E0 (tCons (tVar 6) tNil)) tNil)))
      (tCons (tLst (tCons (tOp rRep (tLst (tCons (tVar iu) (tCons (tVar iv) tNil))) (tC (V.int 3))) (tCons (tOp rRep (tLst (tCons (tVar iv) (tCons (tVar iu) tNil))) (tC (V.int 3))) tNil))) tNil))))) (tRet (tC (V.bl false))) tNext D σ G := by
  have le2 : ∀ n : Nat, n ≤ 6 → n ≤ sizeLine := fun n h => Nat.le_trans h (by decide)
  refine ⟨_, h5, p1, a0, a1, a2, a3, a4, a5, a6, a7, u, v, rfl, q5, es, fun r1 hr1 => ?_⟩
  have t1 := same_new (o := HO.lst [u, v, u, v, u, v]) hr1
  refine ⟨_, h6, p2, b0, b1, b2, b3, b4, b5, b6, b7, v, u, rfl, t1 _ _ q6, fs.same t1, fun r2 hr2 => ?_⟩
  refine ⟨le2 2 (by decide), fun r3 hr3 => ?_⟩
  have t2 := same_new (o := HO.lst [v, u, v, u, v, u]) hr2
  have t3 := same_new (o := HO.lst [.ref r1, .ref r2]) hr3
  refine ⟨_, hu, _, hv, le2 2 (by decide), fun r4 hr4 => ⟨r4, 3, _, rfl, rfl, upd_same, by decide, by decide, le2 6 (by decide), fun r5 hr5 => ?_⟩⟩
  have t4 := same_new (o := HO.lst [u, v]) hr4
  have t5 := same_new (o := HO.lst [u, v, u, v, u, v]) hr5
  refine ⟨_, hv, _, hu, le2 2 (by decide), fun r6 hr6 => ⟨r6, 3, _, rfl, rfl, upd_same, by decide, by decide, le2 6 (by decide), fun r7 hr7 => ?_⟩⟩
  have t6 := same_new (o := HO.lst [v, u]) hr6
  have t7 := same_new (o := HO.lst [v, u, v, u, v, u]) hr7
  refine ⟨le2 2 (by decide), fun r8 hr8 => ?_⟩
  have t8 := same_new (o := HO.lst [.ref r5, .ref r7]) hr8
  have u7 := t8
  have u6 := t7.trans u7
  have u5 := t6.trans u6
  have u4 := t5.trans u5
  have u3 := t4.trans u4
  have u2 := t3.trans u3
  have u1 := t2.trans u2
  have u0 := t1.trans u1
  have yu := Dx.same u0 xu
  have yv := Dx.same u0 xv
  have six : ∀ {p q : V} {dp dq : PyData} {H' : Hp}, Dx K H' p dp → Dx K H' q dq → DxAll K H' [p, q, p, q, p, q] [dp, dq, dp, dq, dp, dq] := fun a b => .cons a (.cons b (.cons a (.cons b (.cons a (.cons b .nil)))))
  have zsix : ∀ {dp dq : PyData}, SzX N M dp → SzX N M dq → SzX (N + 1) (6 * M + 16) (.list [dp, dq, dp, dq, dp, dq]) := fun a b =>
    (SzX.lst (SzL.cons a (SzL.cons b (SzL.cons a (SzL.cons b (SzL.cons a (SzL.cons b (SzL.nil (M := 0))))))))).mono (Nat.le_refl _) (by omega)
  have sz : SzX (N + 2) (12 * M + 40) (.list [.list [du, dv, du, dv, du, dv], .list [dv, du, dv, du, dv, du]]) :=
    (SzX.lst (SzL.cons (zsix zu zv) (SzL.cons (zsix zv zu) (SzL.nil (M := 0))))).mono (Nat.le_refl _) (by omega)
  refine ⟨r3, r8, .list [.list [du, dv, du, dv, du, dv], .list [dv, du, dv, du, dv, du]], rfl, ?_, ?_, ⟨sz.tm, Nat.le_trans sz.dp (by omega), Nat.le_trans sz.wz (by omega)⟩, fun H' s' => ⟨_, rfl, k _ (u0.trans s')⟩⟩
  · exact .lst (SqL.of (u3 _ _ upd_same)) (.cons (.lst (SqL.of (u1 _ _ upd_same)) (six yu yv)) (.cons (.lst (SqL.of (u2 _ _ upd_same)) (six yv yu)) .nil))
  · exact .lst (SqL.of upd_same) (.cons (.lst (SqL.of (u5 _ _ upd_same)) (six yu yv)) (.cons (.lst (SqL.of (u7 _ _ upd_same)) (six yv yu)) .nil))
def spLaw00 (K : PySem.W.Frag) : Sp := fun vs H Q _ => ∃ (a : Addr) (ns : List Int), vs = [.ref a] ∧ SqL K H a (ns.map V.int) ∧ ns.length ≤ 63 ∧ ∀ H', Q (.bl true) H'
theorem fn_law00 (T : Txt K mg w) {E8 : Er8} (EO : ErOk P w K mg base E8) (sb : ∃ o, base.get? sysModules = some o ∧ o.cls = .type "dict") {f : Addr} {fd : FuncData} (F : Fun K "law" "law" s_p_law f fd)
    (c_l_bag : Cal P w K mg base 1 "_law_bag" (spBag K) []) (c_l_take : Cal P w K mg base 1 "_law_take" spTake []) (c_l_odd : Cal P w K mg base 3 "_law_odd" (spOdd K) []) (c_l_bent : Cal P w K mg base 7 "_law_bent" (spBent K 3) [])
    (c_l_built : Cal P w K mg base 3 "_law_built" (spBuilt E8) []) (c_l_are_apart : Cal P w K mg base 2 "_law_are_apart" (spApart E8) []) (c_l_alike : CalG P w K mg base 1 "_law_alike" (spAlikeX K)) (c_l_fields : Cal P w K mg base 1 "_law_fields" (spFields E8) []) :
    FnG P w K mg base 8 f fd ["_law_script"] (spLaw00 K) := by
  refine fnG_of F sc_p_law (fun vs H Q E h => ?_) (fun cdv A outer s H vs Q E hr gd h => ?_)
  · obtain ⟨a, ns, rfl, _⟩ := h
    rfl
  · obtain ⟨a, ns, rfl, hq, hl, k⟩ := h
    have hu := u1 hr
    refine ⟨_,
      (pss_cons (ps_set (i := 1) sc_p_law.nd rfl (Or.inl rfl) (pe_c c_l_bag hr (by first | decide | omega) rfl (pa_cons (pv 0) pa_nil)))
        (pss_cons (ps_for PassesOwn.never rfl (pi_range1 (by rfl) T.n_range (pa_cons pe_int pa_nil)) (pg_name (i := 2) sc_p_law.nd rfl (Or.inl rfl))
        (pss_cons (ps_par (i := 3) (j := 4) (by rfl) sc_p_law.nd rfl rfl (by decide) rfl rfl (pa_cons (pe_c c_l_bent hr (by first | decide | omega) rfl (pa_cons (pv 1) (pa_cons (pe_c c_l_odd hr (by first | decide | omega) rfl (pa_cons (pv 1) pa_nil)) (pa_cons pe_int pa_nil)))) (pa_cons (pe_c c_l_odd hr (by first | decide | omega) rfl (pa_cons (pv 1) pa_nil)) pa_nil)) (by rfl))
        (pss_cons (ps_par (i := 5) (j := 6) (by rfl) sc_p_law.nd rfl rfl (by decide) rfl rfl (pa_cons (pe_c c_l_built hr (by first | decide | omega) rfl (pa_cons (pv 3) (pa_cons (pv 4) pa_nil))) (pa_cons (pe_c c_l_built hr (by first | decide | omega) rfl (pa_cons (pv 4) (pa_cons (pv 3) pa_nil))) pa_nil)) (by rfl))
        (pss_cons (ps_if (PW.pt (pw_or (pt_not (pt_val (pe_c c_l_are_apart hr (by first | decide | omega) rfl (pa_cons (pv 5) pa_nil)))) (pw_or1 (pt_not (pt_val (pe_c c_l_are_apart hr (by first | decide | omega) rfl (pa_cons (pv 6) pa_nil)))))))
        (pss_one (ps_ret pe_bl))
        pss_nil)
        (Evl.pss_cut (ps_if (pt_not (pt_val (pe_cG c_l_alike (hr.mono (by decide)) gd rfl (pa_cons (pe_lst (pa_cons (pe_c c_l_fields hr (by first | decide | omega) rfl (pa_cons (pv 5) pa_nil)) (pa_cons (pe_c c_l_fields hr (by first | decide | omega) rfl (pa_cons (pv 6) pa_nil)) pa_nil))) (pa_cons (pe_lst (pa_cons (pe_op op_rep (pe_lst (pa_cons (pv 3) (pa_cons (pv 4) pa_nil))) pe_int) (pa_cons (pe_op op_rep (pe_lst (pa_cons (pv 4) (pa_cons (pv 3) pa_nil))) pe_int) pa_nil))) pa_nil)))))
        (pss_one (ps_ret pe_bl))
        pss_nil)
        (pss_cons (ps_par (i := 7) (j := 8) (by rfl) sc_p_law.nd rfl rfl (by decide) rfl rfl (pa_cons (pe_lst (pa_cons (pv 3) pa_nil)) (pa_cons (pe_disp (pps_cons pe_str (pv 4) pps_nil) (by rfl) (by rfl) (fun z => by cases z) (by decide)) pa_nil)) (by rfl))
        (pss_cons (ps_par (i := 5) (j := 6) (by rfl) sc_p_law.nd rfl rfl (by decide) rfl rfl (pa_cons (pe_c c_l_built hr (by first | decide | omega) rfl (pa_cons (pv 7) (pa_cons (pv 8) pa_nil))) (pa_cons (pe_c c_l_built hr (by first | decide | omega) rfl (pa_cons (pv 8) (pa_cons (pv 7) pa_nil))) pa_nil)) (by rfl))
        (pss_cons (ps_expr (pe_bm PySem.F.plainAttrs_list PySem.F.slot_list_append PySem.F.type_list_append mt_append (pv 7) (pa_cons (pe_c c_l_take hr (by first | decide | omega) rfl (pa_cons (pv 1) (pa_cons pe_int pa_nil))) pa_nil)))
        (pss_cons (ps_dput hu (pv 8) pe_str (pv 3) rfl)
        (pss_cons (ps_if (pt_not (pt_val (pe_cG c_l_alike (hr.mono (by decide)) gd rfl (pa_cons (pe_lst (pa_cons (pe_c c_l_fields hr (by first | decide | omega) rfl (pa_cons (pv 5) pa_nil)) (pa_cons (pe_c c_l_fields hr (by first | decide | omega) rfl (pa_cons (pv 6) pa_nil)) pa_nil))) (pa_cons (pe_lst (pa_cons (pe_op op_rep (pe_lst (pa_cons (pv 7) (pa_cons (pv 8) pa_nil))) pe_int) (pa_cons (pe_op op_rep (pe_lst (pa_cons (pv 8) (pa_cons (pv 7) pa_nil))) pe_int) pa_nil))) pa_nil)))))
        (pss_one (ps_ret pe_bl))
        pss_nil)
        (pss_cons (ps_expr (pe_bm0 PySem.F.plainAttrs_list PySem.F.slot_list_clear PySem.F.type_list_clear mt_clear (pv 7)))
        (pss_one (ps_if (PW.pt (pw_or (pt_cmpR op_ne (pe_callB (call_reprO (u65 hr) gd sb) (by rfl) T.n_repr (by decide +kernel) (pa_cons (pe_ix ix_list (pe_c c_l_fields hr (by first | decide | omega) rfl (pa_cons (pv 5) pa_nil)) pe_int (fun _ _ => rfl)) pa_nil)) pe_str (nomark _)) (pw_or1 (pt_cmpR op_ne (pe_callB (call_reprO (u65 hr) gd sb) (by rfl) T.n_repr (by decide +kernel) (pa_cons (pe_ix ix_list (pe_c c_l_fields hr (by first | decide | omega) rfl (pa_cons (pv 6) pa_nil)) pe_int (fun _ _ => rfl)) pa_nil)) pe_str (nomark _)))))
        (pss_one (ps_ret pe_bl))
        pss_nil)))))))))))))
        (pss_one (ps_ret pe_bl))))
      , ?_⟩
    refine ⟨_, rfl, a, ns, rfl, hq, hl, fun g H0 s0 B0 => ?_⟩
    refine ⟨4, rfl, by decide, by decide, ?_⟩
    refine for_range (lo := 0) (n := 4) (fun i σ H' => ∃ (w2 w3 w4 w5 w6 w7 w8 : Option V), σ = [some (.ref a), some (.ref g.b), w2, w3, w4, w5, w6, w7, w8] ∧ Bag H' g 0 0) ⟨none, none, none, none, none, none, none, rfl, B0⟩ ?_ ?_
    · rintro i σ H1 hi ⟨w2, w3, w4, w5, w6, w7, w8, rfl, B1⟩
      walk_at "rd"
      refine ⟨g, 0, 0, rfl, B1, fun x0 d0 H2 h0 z0 D2 => ?_⟩
      refine ⟨g, x0, d0, 2, 0, 0, 4, 400, rfl, by decide, D2.bag, h0, z0, by decide, fun x dx H3 hx zx D3 => ?_⟩
      walk_at "rd"
      refine ⟨g, 0, 0, rfl, D3.bag, fun y dy H4 hy zy D4 => ?_⟩
      have hx := hx.fr D4.fr
      have B4 := D4.bag
      clear D2 D3 D4 h0 z0 B1
      refine ⟨_, _, rfl, ?_⟩
      walk_at "rd"
      refine ⟨x, y, rfl, fun p1 a0 a1 a2 a3 a4 a5 a6 a7 H5 n1 s5 q5 es => ?_⟩
      walk_at "rd"
      refine ⟨y, x, rfl, fun p2 b0 b1 b2 b3 b4 b5 b6 b7 H6 n2 s6 q6 fs => ?_⟩
      refine ⟨_, _, rfl, ?_⟩
      have q5 := s6 _ _ q5
      have es := es.same s6
      walk_at "rd"
      refine ⟨p1, [a0, a1, a2, a3, a4, a5, a6, a7], rfl, q5, rfl, es.is8, fun H7 s7 => ?_⟩
      have q5 := s7 _ _ q5
      have es := es.same s7
      have q6 := s7 _ _ q6
      have fs := fs.same s7
      refine ⟨_, rfl, ?_⟩
      walk_at "rd"
      refine ⟨p2, [b0, b1, b2, b3, b4, b5, b6, b7], rfl, q6, rfl, fs.is8, fun H8 s8 => ?_⟩
      have q5 := s8 _ _ q5
      have es := es.same s8
      have q6 := s8 _ _ q6
      have fs := fs.same s8
      have S8 := s5.trans (s6.trans (s7.trans s8))
      refine ⟨_, rfl, ?_⟩
      have hx : DX K g.b H8 x dx := hx.fr (fun _ _ _ h => S8 _ _ h)
      have hy : DX K g.b H8 y dy := hy.fr (fun _ _ _ h => S8 _ _ h)
      have B8 := B4.same S8
      refine ⟨fun σ' H' => ∃ (w5 w6 : Option V), σ' = [some (.ref a), some (.ref g.b), some (.int (0 + (i : Nat))), some x, some y, w5, w6, w7, w8] ∧ Same H8 H', ?_, ?_⟩
      · exact alike_step (iu := 3) (iv := 4) rfl rfl rfl rfl q5 es q6 fs hx.dx hy.dx zx (zy.mono (by decide) (by decide)) (by decide) (by decide) fun H' s' => ⟨_, _, rfl, s'⟩
      · rintro σ' H9 ⟨w5, w6, rfl, s9⟩
        have hx : DX K g.b H9 x dx := hx.fr (fun _ _ _ h => s9 _ _ h)
        have hy : DX K g.b H9 y dy := hy.fr (fun _ _ _ h => s9 _ _ h)
        have B9 := B8.same s9
        clear B8 B4 S8 es fs q5 q6 s5 s6 s7 s8 s9 n1 n2
        refine ⟨_, rfl, by show 1 ≤ sizeLine; decide, fun R hR => ?_⟩
        walk_at "rd"
        refine fun W hW => ⟨_, rfl, upd_same, [(.inr "a", y)], rfl, by show 1 ≤ 15; decide, ?_⟩
        rw [upd_upd]
        have nWR : W ≠ R := fun z => by
          rw [z, upd_same] at hW
          cases hW
        have hW9 : H9 W = none := by
          rw [upd_ne nWR] at hW
          exact hW
        have nRb := B9.ne_new hR
        have nRL := B9.ne_newL hR
        have nWb := B9.ne_new hW9
        have nWL := B9.ne_newL hW9
        obtain ⟨H10, e10⟩ : ∃ H10, H10 = upd (upd H9 R (HO.lst [x])) W (HO.dK [((.inr "a" : Key), y)]) := ⟨_, rfl⟩
        have hR10 : H10 R = some (.lst [x]) := by rw [e10, upd_ne (Ne.symm nWR), upd_same]
        have hW10 : H10 W = some (.dK [(.inr "a", y)]) := by rw [e10, upd_same]
        have F10 : Fr g.b H9 H10 := by
          rw [e10]
          exact ((Fr.refl _ _).new hR).new hW
        have B10 : Bag H10 g 0 0 := by
          rw [e10]
          exact (B9.new hR).new hW
        have eW : mergeK [] [((.inr "a" : Key), y)] = [(.inr "a", y)] := rfl
        rw [eW, ← e10]
        clear e10
        refine ⟨_, _, rfl, ?_⟩
        walk_at "rd"
        refine ⟨.ref R, .ref W, rfl, fun p1 a0 a1 a2 a3 a4 a5 a6 a7 H11 n1 s1 q1 es => ?_⟩
        walk_at "rd"
        refine ⟨.ref W, .ref R, rfl, fun p2 b0 b1 b2 b3 b4 b5 b6 b7 H12 n2 s2 q2 fs => ?_⟩
        refine ⟨_, _, rfl, ?_⟩
        have B12 := B10.same (s1.trans s2)
        have hR12 := (s1.trans s2) _ _ hR10
        have hW12 := (s1.trans s2) _ _ hW10
        have q1 := s2 _ _ q1
        have es := es.same s2
        have F12 : Fr g.b H9 H12 := F10.trans fun _ _ _ h => (s1.trans s2) _ _ h
        have n1R : p1 ≠ R := fun z => by rw [z, hR10] at n1; cases n1
        have n1W : p1 ≠ W := fun z => by rw [z, hW10] at n1; cases n1
        have n2R : p2 ≠ R := fun z => by rw [z, s1 _ _ hR10] at n2; cases n2
        have n2W : p2 ≠ W := fun z => by rw [z, s1 _ _ hW10] at n2; cases n2
        have n1b : p1 ≠ g.b := B10.ne_new n1
        have n2b : p2 ≠ g.b := (B10.same s1).ne_new n2
        obtain ⟨ob, hob⟩ := B12.ob
        have nob : ∀ P : Heap → Prop, H12 g.b ≠ some (.ext P) := fun P z => by rw [hob] at z; cases z
        walk_at "rd"
        refine ⟨.inl ⟨rfl, _, SqL.of hR12⟩, _, rfl, g, 9, 0, 0, rfl, B12, by decide, by decide, fun n H13 m0 m1 D13 => ?_⟩
        have q1 := D13.fr _ _ n1b q1
        have q2 := D13.fr _ _ n2b q2
        have es := ers_fr D13.fr nob es
        have fs := ers_fr D13.fr nob fs
        have hR13 := D13.fr _ _ nRb hR12
        have hW13 := D13.fr _ _ nWb hW12
        have F13 := F12.trans D13.fr
        have B13 := D13.bag
        refine ⟨R, [x], .int n, rfl, rfl, hR13, by show 1 < sizeLine; decide, ?_⟩
        have nR13 : ∀ P : Heap → Prop, H13 R ≠ some (.ext P) := fun P z => by rw [hR13] at z; cases z
        have es := ers_fr (H' := upd H13 R (.lst [x, .int n])) ((Fr.refl R H13).at) nR13 es
        have fs := ers_fr (H' := upd H13 R (.lst [x, .int n])) ((Fr.refl R H13).at) nR13 fs
        have q1 : (upd H13 R (.lst [x, .int n])) p1 = _ := (upd_ne n1R).trans q1
        have q2 : (upd H13 R (.lst [x, .int n])) p2 = _ := (upd_ne n2R).trans q2
        have hW14 : (upd H13 R (.lst [x, .int n])) W = _ := (upd_ne nWR).trans hW13
        have hR14 : (upd H13 R (.lst [x, .int n])) R = _ := upd_same
        have F14 := F13.put (o := .lst [x, .int n]) hR
        have B14 := B13.put (o := .lst [x, .int n]) nRb nRL
        rw [show ([x] ++ [V.int n]) = [x, V.int n] from rfl]
        generalize upd H13 R (.lst [x, .int n]) = H14 at es fs q1 q2 hW14 hR14 F14 B14 ⊢
        refine ⟨_, rfl, _, rfl, W, _, rfl, DPut.k (k := .inr "b") hW14 (by show 1 < sizeLine; decide), ?_⟩
        have eP : putK [((.inr "a" : Key), y)] (.inr "b") x = [(.inr "a", y), (.inr "b", x)] := Vf.putK_new x (fun z => by
          have z := List.mem_singleton.mp z
          injection z with z
          exact absurd z (by decide))
        rw [eP]
        have nW14 : ∀ P : Heap → Prop, H14 W ≠ some (.ext P) := fun P z => by rw [hW14] at z; cases z
        have es := ers_fr (H' := upd H14 W (.dK [(.inr "a", y), (.inr "b", x)])) ((Fr.refl W H14).at) nW14 es
        have fs := ers_fr (H' := upd H14 W (.dK [(.inr "a", y), (.inr "b", x)])) ((Fr.refl W H14).at) nW14 fs
        have q1 : (upd H14 W (.dK [(.inr "a", y), (.inr "b", x)])) p1 = _ := (upd_ne n1W).trans q1
        have q2 : (upd H14 W (.dK [(.inr "a", y), (.inr "b", x)])) p2 = _ := (upd_ne n2W).trans q2
        have hR15 : (upd H14 W (.dK [(.inr "a", y), (.inr "b", x)])) R = _ := (upd_ne (Ne.symm nWR)).trans hR14
        have hW15 : (upd H14 W (.dK [(.inr "a", y), (.inr "b", x)])) W = _ := upd_same
        have F15 := F14.put (o := .dK [(.inr "a", y), (.inr "b", x)]) hW9
        have B15 := B14.put (o := .dK [(.inr "a", y), (.inr "b", x)]) nWb nWL
        generalize upd H14 W (.dK [(.inr "a", y), (.inr "b", x)]) = H15 at es fs q1 q2 hW15 hR15 F15 B15 ⊢
        have vx := (hx.fr F15).dx
        have vy := (hy.fr F15).dx
        have zx' : SzX 9 4200 dx := zx
        have zn : SzX 9 4200 (.int n) := ⟨decide_eq_true (Nat.lt_of_lt_of_le (show n.natAbs < 9 by omega) (by decide +kernel)), Nat.zero_le _, by show 62 ≤ 4200; decide⟩
        have zR : SzX 20 100000 (.list [dx, .int n]) := (SzX.lst (SzL.cons zx' (SzL.cons zn (SzL.nil (M := 0))))).mono (by decide) (by decide)
        have zW : SzX 20 100000 (.dict [(.str "a", dy), (.str "b", dx)]) := ⟨by
          show (tmx (.str "a") && (tmx dy && (tmx (.str "b") && (tmx dx && true)))) = true
          rw [zy.tm, zx'.tm]
          decide +kernel, by
          have h1 := zx'.dp
          have h2 := zy.dp
          show max (max 0 (PyData.depth dy)) (max (max 0 (PyData.depth dx)) 0) + 1 ≤ 20
          omega, by
          have h1 := zx'.wz
          have h2 := zy.wz
          show wtx (.str "a") + wtx dy + 4 + (wtx (.str "b") + wtx dx + 4 + 0) + 4 ≤ 100000
          have e1 : wtx (.str "a") = 12 := rfl
          have e2 : wtx (.str "b") = 12 := rfl
          omega⟩
        refine alike_step (iu := 7) (iv := 8) rfl rfl rfl rfl q1 es q2 fs (.lst (SqL.of hR15) (.cons vx (.cons (.int n) .nil))) (Dx.dic (kvs := [(.inr "a", y), (.inr "b", x)]) (ds := [dy, dx]) (.inl hW15) (List.nodup_cons.mpr ⟨fun z => by
          have z := List.mem_singleton.mp z
          injection z with z
          exact absurd z (by decide), List.nodup_cons.mpr ⟨by simp, List.nodup_nil⟩⟩) (.cons vy (.cons vx .nil))) zR zW (by decide) (by decide) fun H16 s16 => ?_
        have q1 := s16 _ _ q1
        have q2 := s16 _ _ q2
        have es := es.same s16
        have fs := fs.same s16
        have hR16 := s16 _ _ hR15
        have B16 := B15.same s16
        walk_at "rd"
        refine ⟨.inl ⟨rfl, _, SqL.of hR16⟩, R, [x, .int n], rfl, rfl, hR16, ?_⟩
        have nR16 : ∀ P : Heap → Prop, H16 R ≠ some (.ext P) := fun P z => by rw [hR16] at z; cases z
        have es := ers_fr (H' := upd H16 R (.lst [])) ((Fr.refl R H16).at) nR16 es
        have fs := ers_fr (H' := upd H16 R (.lst [])) ((Fr.refl R H16).at) nR16 fs
        have q1 : (upd H16 R (.lst [])) p1 = _ := (upd_ne n1R).trans q1
        have q2 : (upd H16 R (.lst [])) p2 = _ := (upd_ne n2R).trans q2
        have hR17 : (upd H16 R (.lst [])) R = _ := upd_same
        have B17 := B16.put (o := .lst []) nRb nRL
        generalize upd H16 R (.lst []) = H17 at es fs q1 q2 hR17 B17 ⊢
        have okE : OkX (.list []) := ⟨rfl, by decide, by decide⟩
        have sh : PyData.shown (.list []) = "[]" := by decide +kernel
        walk_at "rd"
        refine ⟨p1, a0, a1, a2, a3, a4, a5, a6, a7, .ref R, .ref W, rfl, q1, es, fun r1 hr1 => ?_⟩
        walk_at "rd"
        refine ⟨R, .list [], rfl, .lst (SqL.of (upd_some hR17 hr1)) .nil, okE, ?_⟩
        rw [sh]
        walk_at "rd"
        refine ⟨p2, b0, b1, b2, b3, b4, b5, b6, b7, .ref W, .ref R, rfl, upd_some q2 hr1, fs.same (same_new hr1), fun r2 hr2 => ?_⟩
        walk_at "rd"
        refine ⟨R, .list [], rfl, .lst (SqL.of (upd_some (upd_some hR17 hr1) hr2)) .nil, okE, ?_⟩
        rw [sh]
        walk_at "rd"
        exact ⟨_, _, _, _, _, _, _, rfl, (B17.new hr1).new hr2⟩
    · rintro σ H1 ⟨w2, w3, w4, w5, w6, w7, w8, rfl, B1⟩
      exact k _
theorem law_all (T : Txt K mg w) (sb : ∃ o, base.get? sysModules = some o ∧ o.cls = .type "dict") {f : Addr} {fd : FuncData} (F : Fun K "law" "law" s_p_law f fd) {E8 : Er8} (EO : ErOk P w K mg base E8) :
    FnG P w K mg base 8 f fd ["_law_script"] (spLaw00 K) := by
  have take : Cal P w K mg base 1 "_law_take" spTake [] := c_l_take T
  have one : Cal P w K mg base 2 "_law_one" (spOne K) [] := c_l_one T take
  have odd : Cal P w K mg base 3 "_law_odd" (spOdd K) [] := c_l_odd T one
  have bent : Cal P w K mg base 7 "_law_bent" (spBent K 3) [] := c_l_bent (m := 2) T take one odd (c_l_bent (m := 1) T take one odd (c_l_bent (m := 0) T take one odd (bent_none T)))
  exact fn_law00 T EO sb F (c_l_bag T) take odd bent (c_l_built T EO) (c_l_are_apart T EO (c_l_kinds T EO)) (c_l_alike T sb) (c_l_fields T EO)

end
theorem all_mk {l : PySem.W.OpenLaw} {w : World} {K : PySem.W.Frag} {h : Heap} {mg : Str → Option Value} {fa : Addr} (X : K.In h) (G : h.Ns mainGlobals mg) (hfa : mg "law" = some (.ref fa))
    {f0 : Addr} {od0 an0 : Option Addr} {sl0 : Array (Option Value)} {oc0 kV0 dc0 pm0 cd0 ct0 : Value}
    {f1 : Addr} {od1 an1 : Option Addr} {sl1 : Array (Option Value)} {oc1 kV1 dc1 pm1 cd1 ct1 : Value}
    {f2 : Addr} {od2 an2 : Option Addr} {sl2 : Array (Option Value)} {oc2 kV2 dc2 pm2 cd2 ct2 : Value}
    {f3 : Addr} {od3 an3 : Option Addr} {sl3 : Array (Option Value)} {oc3 kV3 dc3 pm3 cd3 ct3 : Value}
    {f4 : Addr} {od4 an4 : Option Addr} {sl4 : Array (Option Value)} {oc4 kV4 dc4 pm4 cd4 ct4 : Value}
    {f5 : Addr} {od5 an5 : Option Addr} {sl5 : Array (Option Value)} {oc5 kV5 dc5 pm5 cd5 ct5 : Value}
    {f6 : Addr} {od6 an6 : Option Addr} {sl6 : Array (Option Value)} {oc6 kV6 dc6 pm6 cd6 ct6 : Value}
    {f7 : Addr} {od7 an7 : Option Addr} {sl7 : Array (Option Value)} {oc7 kV7 dc7 pm7 cd7 ct7 : Value}
    {f8 : Addr} {od8 an8 : Option Addr} {sl8 : Array (Option Value)} {oc8 kV8 dc8 pm8 cd8 ct8 : Value}
    {f9 : Addr} {od9 an9 : Option Addr} {sl9 : Array (Option Value)} {oc9 kV9 dc9 pm9 cd9 ct9 : Value}
    {f10 : Addr} {od10 an10 : Option Addr} {sl10 : Array (Option Value)} {oc10 kV10 dc10 pm10 cd10 ct10 : Value}
    {xC0 xL0 xF0 : Addr} {xN0 : Addr} {xnm0 xq0 : Str} {xbs0 : List Value} {xsn0 : List Str} {xsu0 : List Value} {xab0 : Bool} {xco0 : Option Bool} {xdd0 : Option Addr} {xm0 xn0 xo0 xp0 xr0 : Option Value} {xoc0 xkV0 xdc0 xpm0 xcd0 xct0 : Value} {xod0 xan0 : Option Addr} {xsl0 : Array (Option Value)}
    {xC1 xL1 xF1 : Addr} {xN1 : Addr} {xnm1 xq1 : Str} {xbs1 : List Value} {xsn1 : List Str} {xsu1 : List Value} {xab1 : Bool} {xco1 : Option Bool} {xdd1 : Option Addr} {xm1 xn1 xo1 xp1 xr1 : Option Value} {xoc1 xkV1 xdc1 xpm1 xcd1 xct1 : Value} {xod1 xan1 : Option Addr} {xsl1 : Array (Option Value)}
    {xC2 xL2 xF2 : Addr} {xN2 : Addr} {xnm2 xq2 : Str} {xbs2 : List Value} {xsn2 : List Str} {xsu2 : List Value} {xab2 : Bool} {xco2 : Option Bool} {xdd2 : Option Addr} {xm2 xn2 xo2 xp2 xr2 : Option Value} {xoc2 xkV2 xdc2 xpm2 xcd2 xct2 : Value} {xod2 xan2 : Option Addr} {xsl2 : Array (Option Value)}
    {xC3 xL3 xF3 : Addr} {xN3 : Addr} {xnm3 xq3 : Str} {xbs3 : List Value} {xsn3 : List Str} {xsu3 : List Value} {xab3 : Bool} {xco3 : Option Bool} {xdd3 : Option Addr} {xm3 xn3 xo3 xp3 xr3 : Option Value} {xoc3 xkV3 xdc3 xpm3 xcd3 xct3 : Value} {xod3 xan3 : Option Addr} {xsl3 : Array (Option Value)}
    {xC4 xL4 xF4 : Addr} {xN4 : Addr} {xnm4 xq4 : Str} {xbs4 : List Value} {xsn4 : List Str} {xsu4 : List Value} {xab4 : Bool} {xco4 : Option Bool} {xdd4 : Option Addr} {xm4 xn4 xo4 xp4 xr4 : Option Value} {xoc4 xkV4 xdc4 xpm4 xcd4 xct4 : Value} {xod4 xan4 : Option Addr} {xsl4 : Array (Option Value)}
    {xC5 xL5 xF5 : Addr} {xN5 : Addr} {xnm5 xq5 : Str} {xbs5 : List Value} {xsn5 : List Str} {xsu5 : List Value} {xab5 : Bool} {xco5 : Option Bool} {xdd5 : Option Addr} {xm5 xn5 xo5 xp5 xr5 : Option Value} {xoc5 xkV5 xdc5 xpm5 xcd5 xct5 : Value} {xod5 xan5 : Option Addr} {xsl5 : Array (Option Value)}
    {yO yD yL : Addr}
    (a0 : PySem.W.nsIn K mainGlobals "_law_bag" = some (some (.ref f0))) (l0 : K.lookup f0 = some ⟨oc0, od0, .func (PySem.W.fnOf "_law_bag" "_law_bag" (defArgs s_l_bag) (defBody s_l_bag) (defScope s_l_bag) .none kV0 dc0 pm0 an0 cd0 ct0), sl0⟩) (c0 : PySem.W.codeIn K cd0 "_law_bag" = true) (k0 : PySem.W.keepIn K (.ref f0) = true)
    (a1 : PySem.W.nsIn K mainGlobals "_law_take" = some (some (.ref f1))) (l1 : K.lookup f1 = some ⟨oc1, od1, .func (PySem.W.fnOf "_law_take" "_law_take" (defArgs s_l_take) (defBody s_l_take) (defScope s_l_take) .none kV1 dc1 pm1 an1 cd1 ct1), sl1⟩) (c1 : PySem.W.codeIn K cd1 "_law_take" = true) (k1 : PySem.W.keepIn K (.ref f1) = true)
    (a2 : PySem.W.nsIn K mainGlobals "_law_one" = some (some (.ref f2))) (l2 : K.lookup f2 = some ⟨oc2, od2, .func (PySem.W.fnOf "_law_one" "_law_one" (defArgs s_l_one) (defBody s_l_one) (defScope s_l_one) .none kV2 dc2 pm2 an2 cd2 ct2), sl2⟩) (c2 : PySem.W.codeIn K cd2 "_law_one" = true) (k2 : PySem.W.keepIn K (.ref f2) = true)
    (a3 : PySem.W.nsIn K mainGlobals "_law_odd" = some (some (.ref f3))) (l3 : K.lookup f3 = some ⟨oc3, od3, .func (PySem.W.fnOf "_law_odd" "_law_odd" (defArgs s_l_odd) (defBody s_l_odd) (defScope s_l_odd) .none kV3 dc3 pm3 an3 cd3 ct3), sl3⟩) (c3 : PySem.W.codeIn K cd3 "_law_odd" = true) (k3 : PySem.W.keepIn K (.ref f3) = true)
    (a4 : PySem.W.nsIn K mainGlobals "_law_bent" = some (some (.ref f4))) (l4 : K.lookup f4 = some ⟨oc4, od4, .func (PySem.W.fnOf "_law_bent" "_law_bent" (defArgs s_l_bent) (defBody s_l_bent) (defScope s_l_bent) .none kV4 dc4 pm4 an4 cd4 ct4), sl4⟩) (c4 : PySem.W.codeIn K cd4 "_law_bent" = true) (k4 : PySem.W.keepIn K (.ref f4) = true)
    (a5 : PySem.W.nsIn K mainGlobals "_law_built" = some (some (.ref f5))) (l5 : K.lookup f5 = some ⟨oc5, od5, .func (PySem.W.fnOf "_law_built" "_law_built" (defArgs s_l_built) (defBody s_l_built) (defScope s_l_built) .none kV5 dc5 pm5 an5 cd5 ct5), sl5⟩) (c5 : PySem.W.codeIn K cd5 "_law_built" = true) (k5 : PySem.W.keepIn K (.ref f5) = true)
    (a6 : PySem.W.nsIn K mainGlobals "_law_kinds" = some (some (.ref f6))) (l6 : K.lookup f6 = some ⟨oc6, od6, .func (PySem.W.fnOf "_law_kinds" "_law_kinds" (defArgs s_l_kinds) (defBody s_l_kinds) (defScope s_l_kinds) .none kV6 dc6 pm6 an6 cd6 ct6), sl6⟩) (c6 : PySem.W.codeIn K cd6 "_law_kinds" = true) (k6 : PySem.W.keepIn K (.ref f6) = true)
    (a7 : PySem.W.nsIn K mainGlobals "_law_are_apart" = some (some (.ref f7))) (l7 : K.lookup f7 = some ⟨oc7, od7, .func (PySem.W.fnOf "_law_are_apart" "_law_are_apart" (defArgs s_l_are_apart) (defBody s_l_are_apart) (defScope s_l_are_apart) .none kV7 dc7 pm7 an7 cd7 ct7), sl7⟩) (c7 : PySem.W.codeIn K cd7 "_law_are_apart" = true) (k7 : PySem.W.keepIn K (.ref f7) = true)
    (a8 : PySem.W.nsIn K mainGlobals "_law_alike" = some (some (.ref f8))) (l8 : K.lookup f8 = some ⟨oc8, od8, .func (PySem.W.fnOf "_law_alike" "_law_alike" (defArgs s_l_alike) (defBody s_l_alike) (defScope s_l_alike) .none kV8 dc8 pm8 an8 cd8 ct8), sl8⟩) (c8 : PySem.W.codeIn K cd8 "_law_alike" = true) (k8 : PySem.W.keepIn K (.ref f8) = true)
    (a9 : PySem.W.nsIn K mainGlobals "_law_fields" = some (some (.ref f9))) (l9 : K.lookup f9 = some ⟨oc9, od9, .func (PySem.W.fnOf "_law_fields" "_law_fields" (defArgs s_l_fields) (defBody s_l_fields) (defScope s_l_fields) .none kV9 dc9 pm9 an9 cd9 ct9), sl9⟩) (c9 : PySem.W.codeIn K cd9 "_law_fields" = true) (k9 : PySem.W.keepIn K (.ref f9) = true)
    (a10 : PySem.W.nsIn K mainGlobals "law" = some (some (.ref f10))) (l10 : K.lookup f10 = some ⟨oc10, od10, .func (PySem.W.fnOf "law" "law" (defArgs s_p_law) (defBody s_p_law) (defScope s_p_law) .none kV10 dc10 pm10 an10 cd10 ct10), sl10⟩) (c10 : PySem.W.codeIn K cd10 "law" = true) (k10 : PySem.W.keepIn K (.ref f10) = true)
    (z_abs : PySem.W.nsIn K mainGlobals "abs" = some none)
    (z_int : PySem.W.nsIn K mainGlobals "int" = some none)
    (z_len : PySem.W.nsIn K mainGlobals "len" = some none)
    (z_range : PySem.W.nsIn K mainGlobals "range" = some none)
    (z_repr : PySem.W.nsIn K mainGlobals "repr" = some none)
    (z_isinstance : PySem.W.nsIn K mainGlobals "isinstance" = some none)
    (z_list : PySem.W.nsIn K mainGlobals "list" = some none)
    (z_enumerate : PySem.W.nsIn K mainGlobals "enumerate" = some none)
    (z_str : PySem.W.nsIn K mainGlobals "str" = some none)
    (z_tuple : PySem.W.nsIn K mainGlobals "tuple" = some none)
    (z_ValueError : PySem.W.nsIn K mainGlobals "ValueError" = some none)
    (xa0 : PySem.W.nsIn K mainGlobals "Wrong" = some (some (.ref xC0))) (xl0 : K.lookup xC0 = some (excClassObj xnm0 xq0 xC0 xN0 xbs0 [.ref xL0, .type "ValueError", .type "Exception", .type "BaseException", .type "object"] true xsn0 xsu0 xab0 xco0 xdd0 xm0 xn0 xo0 xp0 xr0 "ValueError.__new__")) (xs0 : PySem.W.findIn K (.ref xC0) "__setattr__" = some (some (.builtin "object.__setattr__"))) (xg0 : PySem.W.findIn K (.ref xC0) "__getattribute__" = some (some (.builtin "BaseException.__getattribute__"))) (xh0 : PySem.W.findIn K (.ref xC0) "__getattr__" = some none) (xw0 : PySem.W.findIn K (.ref xC0) "place" = some none) (xi0 : PySem.W.findIn K (.ref xC0) "__init__" = some (some (.ref xF0))) (xt0 : PySem.W.typeIn K (.ref xF0) = some (.type "function")) (xy0 : K.lookup xF0 = some ⟨xoc0, xod0, .func (PySem.W.fnOf "__init__" "Wrong.__init__" (defArgs (inClass (topS 2) 0)) (defBody (inClass (topS 2) 0)) (defScope (inClass (topS 2) 0)) .none xkV0 xdc0 xpm0 xan0 xcd0 xct0), xsl0⟩) (xz0 : PySem.W.codeIn K xcd0 "Wrong.__init__" = true) (xk0 : PySem.W.keepIn K (.ref xF0) = true) (xb0 : PySem.W.keepIn K (.ref xC0) = true) (xe0 : PySem.W.subIn K (.ref xC0) (.type "BaseException") = some true) (xj0 : PySem.W.typeIn K (.ref xC0) = some (.type "type")) (xd0 : PySem.W.hasDictIn K xC0 = true) (xv0 : PySem.W.isClsIn K xC0 = true) (xu0 : PySem.W.subIn K (.ref xC0) (.ref xC0) = some true)
    (xa1 : PySem.W.nsIn K mainGlobals "Faulty" = some (some (.ref xC1))) (xl1 : K.lookup xC1 = some (excClassObj xnm1 xq1 xC1 xN1 xbs1 [.ref xL1, .type "ValueError", .type "Exception", .type "BaseException", .type "object"] true xsn1 xsu1 xab1 xco1 xdd1 xm1 xn1 xo1 xp1 xr1 "ValueError.__new__")) (xs1 : PySem.W.findIn K (.ref xC1) "__setattr__" = some (some (.builtin "object.__setattr__"))) (xg1 : PySem.W.findIn K (.ref xC1) "__getattribute__" = some (some (.builtin "BaseException.__getattribute__"))) (xh1 : PySem.W.findIn K (.ref xC1) "__getattr__" = some none) (xw1 : PySem.W.findIn K (.ref xC1) "faults" = some none) (xi1 : PySem.W.findIn K (.ref xC1) "__init__" = some (some (.ref xF1))) (xt1 : PySem.W.typeIn K (.ref xF1) = some (.type "function")) (xy1 : K.lookup xF1 = some ⟨xoc1, xod1, .func (PySem.W.fnOf "__init__" "Faulty.__init__" (defArgs (inClass (topS 3) 0)) (defBody (inClass (topS 3) 0)) (defScope (inClass (topS 3) 0)) .none xkV1 xdc1 xpm1 xan1 xcd1 xct1), xsl1⟩) (xz1 : PySem.W.codeIn K xcd1 "Faulty.__init__" = true) (xk1 : PySem.W.keepIn K (.ref xF1) = true) (xb1 : PySem.W.keepIn K (.ref xC1) = true) (xe1 : PySem.W.subIn K (.ref xC1) (.type "BaseException") = some true) (xj1 : PySem.W.typeIn K (.ref xC1) = some (.type "type")) (xd1 : PySem.W.hasDictIn K xC1 = true) (xv1 : PySem.W.isClsIn K xC1 = true) (xu1 : PySem.W.subIn K (.ref xC1) (.ref xC1) = some true)
    (xa2 : PySem.W.nsIn K mainGlobals "NoStyle" = some (some (.ref xC2))) (xl2 : K.lookup xC2 = some (excClassObj xnm2 xq2 xC2 xN2 xbs2 [.ref xL2, .type "ValueError", .type "Exception", .type "BaseException", .type "object"] true xsn2 xsu2 xab2 xco2 xdd2 xm2 xn2 xo2 xp2 xr2 "ValueError.__new__")) (xs2 : PySem.W.findIn K (.ref xC2) "__setattr__" = some (some (.builtin "object.__setattr__"))) (xg2 : PySem.W.findIn K (.ref xC2) "__getattribute__" = some (some (.builtin "BaseException.__getattribute__"))) (xh2 : PySem.W.findIn K (.ref xC2) "__getattr__" = some none) (xw2 : PySem.W.findIn K (.ref xC2) "line" = some none) (xi2 : PySem.W.findIn K (.ref xC2) "__init__" = some (some (.ref xF2))) (xt2 : PySem.W.typeIn K (.ref xF2) = some (.type "function")) (xy2 : K.lookup xF2 = some ⟨xoc2, xod2, .func (PySem.W.fnOf "__init__" "NoStyle.__init__" (defArgs (inClass (topS 4) 0)) (defBody (inClass (topS 4) 0)) (defScope (inClass (topS 4) 0)) .none xkV2 xdc2 xpm2 xan2 xcd2 xct2), xsl2⟩) (xz2 : PySem.W.codeIn K xcd2 "NoStyle.__init__" = true) (xk2 : PySem.W.keepIn K (.ref xF2) = true) (xb2 : PySem.W.keepIn K (.ref xC2) = true) (xe2 : PySem.W.subIn K (.ref xC2) (.type "BaseException") = some true) (xj2 : PySem.W.typeIn K (.ref xC2) = some (.type "type")) (xd2 : PySem.W.hasDictIn K xC2 = true) (xv2 : PySem.W.isClsIn K xC2 = true) (xu2 : PySem.W.subIn K (.ref xC2) (.ref xC2) = some true)
    (xa3 : PySem.W.nsIn K mainGlobals "TooMany" = some (some (.ref xC3))) (xl3 : K.lookup xC3 = some (excClassObj xnm3 xq3 xC3 xN3 xbs3 [.ref xL3, .type "ValueError", .type "Exception", .type "BaseException", .type "object"] true xsn3 xsu3 xab3 xco3 xdd3 xm3 xn3 xo3 xp3 xr3 "ValueError.__new__")) (xs3 : PySem.W.findIn K (.ref xC3) "__setattr__" = some (some (.builtin "object.__setattr__"))) (xg3 : PySem.W.findIn K (.ref xC3) "__getattribute__" = some (some (.builtin "BaseException.__getattribute__"))) (xh3 : PySem.W.findIn K (.ref xC3) "__getattr__" = some none) (xw3 : PySem.W.findIn K (.ref xC3) "most" = some none) (xi3 : PySem.W.findIn K (.ref xC3) "__init__" = some (some (.ref xF3))) (xt3 : PySem.W.typeIn K (.ref xF3) = some (.type "function")) (xy3 : K.lookup xF3 = some ⟨xoc3, xod3, .func (PySem.W.fnOf "__init__" "TooMany.__init__" (defArgs (inClass (topS 5) 0)) (defBody (inClass (topS 5) 0)) (defScope (inClass (topS 5) 0)) .none xkV3 xdc3 xpm3 xan3 xcd3 xct3), xsl3⟩) (xz3 : PySem.W.codeIn K xcd3 "TooMany.__init__" = true) (xk3 : PySem.W.keepIn K (.ref xF3) = true) (xb3 : PySem.W.keepIn K (.ref xC3) = true) (xe3 : PySem.W.subIn K (.ref xC3) (.type "BaseException") = some true) (xj3 : PySem.W.typeIn K (.ref xC3) = some (.type "type")) (xd3 : PySem.W.hasDictIn K xC3 = true) (xv3 : PySem.W.isClsIn K xC3 = true) (xu3 : PySem.W.subIn K (.ref xC3) (.ref xC3) = some true)
    (xa4 : PySem.W.nsIn K mainGlobals "NoChange" = some (some (.ref xC4))) (xl4 : K.lookup xC4 = some (excClassObj xnm4 xq4 xC4 xN4 xbs4 [.ref xL4, .type "ValueError", .type "Exception", .type "BaseException", .type "object"] true xsn4 xsu4 xab4 xco4 xdd4 xm4 xn4 xo4 xp4 xr4 "ValueError.__new__")) (xs4 : PySem.W.findIn K (.ref xC4) "__setattr__" = some (some (.builtin "object.__setattr__"))) (xg4 : PySem.W.findIn K (.ref xC4) "__getattribute__" = some (some (.builtin "BaseException.__getattribute__"))) (xh4 : PySem.W.findIn K (.ref xC4) "__getattr__" = some none) (xw4 : PySem.W.findIn K (.ref xC4) "change" = some none) (xi4 : PySem.W.findIn K (.ref xC4) "__init__" = some (some (.ref xF4))) (xt4 : PySem.W.typeIn K (.ref xF4) = some (.type "function")) (xy4 : K.lookup xF4 = some ⟨xoc4, xod4, .func (PySem.W.fnOf "__init__" "NoChange.__init__" (defArgs (inClass (topS 6) 0)) (defBody (inClass (topS 6) 0)) (defScope (inClass (topS 6) 0)) .none xkV4 xdc4 xpm4 xan4 xcd4 xct4), xsl4⟩) (xz4 : PySem.W.codeIn K xcd4 "NoChange.__init__" = true) (xk4 : PySem.W.keepIn K (.ref xF4) = true) (xb4 : PySem.W.keepIn K (.ref xC4) = true) (xe4 : PySem.W.subIn K (.ref xC4) (.type "BaseException") = some true) (xj4 : PySem.W.typeIn K (.ref xC4) = some (.type "type")) (xd4 : PySem.W.hasDictIn K xC4 = true) (xv4 : PySem.W.isClsIn K xC4 = true) (xu4 : PySem.W.subIn K (.ref xC4) (.ref xC4) = some true)
    (xa5 : PySem.W.nsIn K mainGlobals "NoFile" = some (some (.ref xC5))) (xl5 : K.lookup xC5 = some (excClassObj xnm5 xq5 xC5 xN5 xbs5 [.ref xL5, .type "ValueError", .type "Exception", .type "BaseException", .type "object"] true xsn5 xsu5 xab5 xco5 xdd5 xm5 xn5 xo5 xp5 xr5 "ValueError.__new__")) (xs5 : PySem.W.findIn K (.ref xC5) "__setattr__" = some (some (.builtin "object.__setattr__"))) (xg5 : PySem.W.findIn K (.ref xC5) "__getattribute__" = some (some (.builtin "BaseException.__getattribute__"))) (xh5 : PySem.W.findIn K (.ref xC5) "__getattr__" = some none) (xw5 : PySem.W.findIn K (.ref xC5) "path" = some none) (xi5 : PySem.W.findIn K (.ref xC5) "__init__" = some (some (.ref xF5))) (xt5 : PySem.W.typeIn K (.ref xF5) = some (.type "function")) (xy5 : K.lookup xF5 = some ⟨xoc5, xod5, .func (PySem.W.fnOf "__init__" "NoFile.__init__" (defArgs (inClass (topS 7) 0)) (defBody (inClass (topS 7) 0)) (defScope (inClass (topS 7) 0)) .none xkV5 xdc5 xpm5 xan5 xcd5 xct5), xsl5⟩) (xz5 : PySem.W.codeIn K xcd5 "NoFile.__init__" = true) (xk5 : PySem.W.keepIn K (.ref xF5) = true) (xb5 : PySem.W.keepIn K (.ref xC5) = true) (xe5 : PySem.W.subIn K (.ref xC5) (.type "BaseException") = some true) (xj5 : PySem.W.typeIn K (.ref xC5) = some (.type "type")) (xd5 : PySem.W.hasDictIn K xC5 = true) (xv5 : PySem.W.isClsIn K xC5 = true) (xu5 : PySem.W.subIn K (.ref xC5) (.ref xC5) = some true)
    (yaO : PySem.W.nsIn K mainGlobals "Nothing" = some (some (.ref yO))) (ykO : PySem.W.keepIn K (.ref yO) = true) (yqO : PySem.W.excIn K yO bmV "ValueError.__new__" = true)
    (yaD : PySem.W.nsIn K mainGlobals "NoCommand" = some (some (.ref yD))) (ykD : PySem.W.keepIn K (.ref yD) = true) (yqD : PySem.W.excIn K yD bmV "ValueError.__new__" = true)
    (yaL : PySem.W.nsIn K mainGlobals "LaidError" = some (some (.ref yL))) (yqL : erAll K ⟨xC0, xC1, xC2, xC3, xC4, xC5, yO, yD, yL⟩ = true) :
    ∃ (fd : FuncData) (L : List (Addr × Addr)), (∀ p ∈ L, PySem.W.codeHdIn K p.1 p.2 = true ∧ K.lookup p.2 = none) ∧ L.map (·.2) = [] ∧ (∀ (s : Shared) (v : Value), BindsTo s fd ⟨[v], []⟩ [("_law_script", v)]) ∧ ∀ base : Heap, K.In base → base.Ns mainGlobals mg → (True → ∃ o, base.get? sysModules = some o ∧ o.cls = .type "dict") → (∀ p ∈ L, LamX.TabB base mg p.1 p.2) → FnG l.prog w K mg base 8 fa fd ["_law_script"] (spLaw00 K) := by
  have e := hfa.symm.trans (PySem.W.mg_of X G a10)
  cases e
  have T : Txt K mg w := {
    d_l_bag := defIn_mk X G a0 l0 c0 k0 fun _ _ _ _ _ _ us hl => match us, hl with | [_], _ => rfl
    d_l_take := defIn_mk X G a1 l1 c1 k1 fun _ _ _ _ _ _ us hl => match us, hl with | [_, _], _ => rfl
    d_l_one := defIn_mk X G a2 l2 c2 k2 fun _ _ _ _ _ _ us hl => match us, hl with | [_, _], _ => rfl
    d_l_odd := defIn_mk X G a3 l3 c3 k3 fun _ _ _ _ _ _ us hl => match us, hl with | [_], _ => rfl
    d_l_bent := defIn_mk X G a4 l4 c4 k4 fun _ _ _ _ _ _ us hl => match us, hl with | [_, _, _], _ => rfl
    d_l_built := defIn_mk X G a5 l5 c5 k5 fun _ _ _ _ _ _ us hl => match us, hl with | [_, _], _ => rfl
    d_l_kinds := defIn_mk X G a6 l6 c6 k6 fun _ _ _ _ _ _ us hl => match us, hl with | [_], _ => rfl
    d_l_are_apart := defIn_mk X G a7 l7 c7 k7 fun _ _ _ _ _ _ us hl => match us, hl with | [_], _ => rfl
    d_l_alike := defIn_mk X G a8 l8 c8 k8 fun _ _ _ _ _ _ us hl => match us, hl with | [_, _], _ => rfl
    d_l_fields := defIn_mk X G a9 l9 c9 k9 fun _ _ _ _ _ _ us hl => match us, hl with | [_], _ => rfl
    d_p_law := defIn_mk X G a10 l10 c10 k10 fun _ _ _ _ _ _ us hl => match us, hl with | [_], _ => rfl
    n_abs := PySem.W.mg_none_of X G z_abs
    n_int := PySem.W.mg_none_of X G z_int
    n_len := PySem.W.mg_none_of X G z_len
    n_range := PySem.W.mg_none_of X G z_range
    n_repr := PySem.W.mg_none_of X G z_repr
    n_isinstance := PySem.W.mg_none_of X G z_isinstance
    n_list := PySem.W.mg_none_of X G z_list
    n_enumerate := PySem.W.mg_none_of X G z_enumerate
    n_str := PySem.W.mg_none_of X G z_str
    n_tuple := PySem.W.mg_none_of X G z_tuple
    n_ValueError := PySem.W.mg_none_of X G z_ValueError
  }
  have F := fun_mk (st := s_p_law) l10 c10 k10
  have tx0 : XcT K mg "Wrong" "place" xC0 xF0 := ⟨PySem.W.mg_of X G xa0, ⟨⟨_, _, _, _, _, _, _, _, _, _, _, _, _, _, _, xl0, by show PySem.HandSPX.refsVE [.type "ValueError", .type "Exception", .type "BaseException", .type "object"] = true; decide +kernel⟩, xs0, xe0, xj0, xb0⟩, xi0, xt0, xw0, ⟨xg0, xh0, xe0, xd0⟩, exm_me xe0 xv0 xj0 xu0⟩
  have fx0 := fun_mk (st := (inClass (topS 2) 0)) xy0 xz0 xk0
  have bx0 := fx0.binds (ps := ["self", "place"]) fun _ _ _ _ _ _ us hl => match us, hl with | [_, _], _ => rfl
  have rx0 : ∀ base : Heap, XcR l.prog w K mg base "Wrong" "place" xC0 := fun base => ⟨_, _, tx0, xi_ok tx0 fx0 ⟨rfl, rfl, rfl, by decide +kernel, rfl, by decide +kernel, by decide +kernel⟩ rfl (.inl rfl) (.inl rfl) (by decide) (by decide), bx0⟩
  have tx1 : XcT K mg "Faulty" "faults" xC1 xF1 := ⟨PySem.W.mg_of X G xa1, ⟨⟨_, _, _, _, _, _, _, _, _, _, _, _, _, _, _, xl1, by show PySem.HandSPX.refsVE [.type "ValueError", .type "Exception", .type "BaseException", .type "object"] = true; decide +kernel⟩, xs1, xe1, xj1, xb1⟩, xi1, xt1, xw1, ⟨xg1, xh1, xe1, xd1⟩, exm_me xe1 xv1 xj1 xu1⟩
  have fx1 := fun_mk (st := (inClass (topS 3) 0)) xy1 xz1 xk1
  have bx1 := fx1.binds (ps := ["self", "faults"]) fun _ _ _ _ _ _ us hl => match us, hl with | [_, _], _ => rfl
  have rx1 : ∀ base : Heap, XcR l.prog w K mg base "Faulty" "faults" xC1 := fun base => ⟨_, _, tx1, xi_ok tx1 fx1 ⟨rfl, rfl, rfl, by decide +kernel, rfl, by decide +kernel, by decide +kernel⟩ rfl (.inl rfl) (.inl rfl) (by decide) (by decide), bx1⟩
  have tx2 : XcT K mg "NoStyle" "line" xC2 xF2 := ⟨PySem.W.mg_of X G xa2, ⟨⟨_, _, _, _, _, _, _, _, _, _, _, _, _, _, _, xl2, by show PySem.HandSPX.refsVE [.type "ValueError", .type "Exception", .type "BaseException", .type "object"] = true; decide +kernel⟩, xs2, xe2, xj2, xb2⟩, xi2, xt2, xw2, ⟨xg2, xh2, xe2, xd2⟩, exm_me xe2 xv2 xj2 xu2⟩
  have fx2 := fun_mk (st := (inClass (topS 4) 0)) xy2 xz2 xk2
  have bx2 := fx2.binds (ps := ["self", "line"]) fun _ _ _ _ _ _ us hl => match us, hl with | [_, _], _ => rfl
  have rx2 : ∀ base : Heap, XcR l.prog w K mg base "NoStyle" "line" xC2 := fun base => ⟨_, _, tx2, xi_ok tx2 fx2 ⟨rfl, rfl, rfl, by decide +kernel, rfl, by decide +kernel, by decide +kernel⟩ rfl (.inl rfl) (.inl rfl) (by decide) (by decide), bx2⟩
  have tx3 : XcT K mg "TooMany" "most" xC3 xF3 := ⟨PySem.W.mg_of X G xa3, ⟨⟨_, _, _, _, _, _, _, _, _, _, _, _, _, _, _, xl3, by show PySem.HandSPX.refsVE [.type "ValueError", .type "Exception", .type "BaseException", .type "object"] = true; decide +kernel⟩, xs3, xe3, xj3, xb3⟩, xi3, xt3, xw3, ⟨xg3, xh3, xe3, xd3⟩, exm_me xe3 xv3 xj3 xu3⟩
  have fx3 := fun_mk (st := (inClass (topS 5) 0)) xy3 xz3 xk3
  have bx3 := fx3.binds (ps := ["self", "most"]) fun _ _ _ _ _ _ us hl => match us, hl with | [_, _], _ => rfl
  have rx3 : ∀ base : Heap, XcR l.prog w K mg base "TooMany" "most" xC3 := fun base => ⟨_, _, tx3, xi_ok tx3 fx3 ⟨rfl, rfl, rfl, by decide +kernel, rfl, by decide +kernel, by decide +kernel⟩ rfl (.inl rfl) (.inl rfl) (by decide) (by decide), bx3⟩
  have tx4 : XcT K mg "NoChange" "change" xC4 xF4 := ⟨PySem.W.mg_of X G xa4, ⟨⟨_, _, _, _, _, _, _, _, _, _, _, _, _, _, _, xl4, by show PySem.HandSPX.refsVE [.type "ValueError", .type "Exception", .type "BaseException", .type "object"] = true; decide +kernel⟩, xs4, xe4, xj4, xb4⟩, xi4, xt4, xw4, ⟨xg4, xh4, xe4, xd4⟩, exm_me xe4 xv4 xj4 xu4⟩
  have fx4 := fun_mk (st := (inClass (topS 6) 0)) xy4 xz4 xk4
  have bx4 := fx4.binds (ps := ["self", "change"]) fun _ _ _ _ _ _ us hl => match us, hl with | [_, _], _ => rfl
  have rx4 : ∀ base : Heap, XcR l.prog w K mg base "NoChange" "change" xC4 := fun base => ⟨_, _, tx4, xi_ok tx4 fx4 ⟨rfl, rfl, rfl, by decide +kernel, rfl, by decide +kernel, by decide +kernel⟩ rfl (.inl rfl) (.inl rfl) (by decide) (by decide), bx4⟩
  have tx5 : XcT K mg "NoFile" "path" xC5 xF5 := ⟨PySem.W.mg_of X G xa5, ⟨⟨_, _, _, _, _, _, _, _, _, _, _, _, _, _, _, xl5, by show PySem.HandSPX.refsVE [.type "ValueError", .type "Exception", .type "BaseException", .type "object"] = true; decide +kernel⟩, xs5, xe5, xj5, xb5⟩, xi5, xt5, xw5, ⟨xg5, xh5, xe5, xd5⟩, exm_me xe5 xv5 xj5 xu5⟩
  have fx5 := fun_mk (st := (inClass (topS 7) 0)) xy5 xz5 xk5
  have bx5 := fx5.binds (ps := ["self", "path"]) fun _ _ _ _ _ _ us hl => match us, hl with | [_, _], _ => rfl
  have rx5 : ∀ base : Heap, XcR l.prog w K mg base "NoFile" "path" xC5 := fun base => ⟨_, _, tx5, xi_ok tx5 fx5 ⟨rfl, rfl, rfl, by decide +kernel, rfl, by decide +kernel, by decide +kernel⟩ rfl (.inl rfl) (.inl rfl) (by decide) (by decide), bx5⟩
  have eo : ∀ base : Heap, ErOk l.prog w K mg base ⟨xC0, xC1, xC2, xC3, xC4, xC5, yO, yD, yL⟩ := fun base => ⟨rx0 base, rx1 base, rx2 base, rx3 base, rx4 base, rx5 base, ⟨PySem.W.mg_of X G yaO, yqO, ykO⟩, ⟨PySem.W.mg_of X G yaD, yqD, ykD⟩, PySem.W.mg_of X G yaL, yqL⟩
  refine ⟨_, [], fun p hp => ?_, rfl, fun s v => .of_eq rfl, fun base kin _ SB TB => law_all T (SB trivial) F (eo base)  ⟩
  simp only [List.mem_cons, List.not_mem_nil, or_false] at hp
end Lw
open PySem PySem.W PyProof.Rows
local macro_rules | `(tactic| o_head ($f $a $b $c)) => `(tactic| o_head (Vf.sysHook ($f $a $b $c)))
set_option maxRecDepth 100000 in
set_option maxHeartbeats 0 in
theorem PySem.Challenge.cw_leastlaid_k00_errors_of_any_value_holds : PySem.Challenge.rw_leastlaid_k00_errors_of_any_value.Holds := by
  w_on; o_law; k_head; (case hw => w_witness2)
  k_fill
  refine Vf.walk_ofX (S := True) (l := PySem.Challenge.rw_leastlaid_k00_errors_of_any_value) (n := 63) (k := 8) (x := "_law_script") (sp := fun w => Lw.spLaw00 _) (Ts := []) rfl (by decide) rfl ⟨rfl, by decide, by decide⟩ (fun w h Y => ⟨⟨PySem.W.kIn_of Y.1, fun _ h => nomatch h⟩, fun _ => Y.2⟩) ?F (fun _ _ a ns hl _ hS => ⟨a, ns, rfl, hS, hl, fun _ => rfl⟩)
  case F =>
    intro w mg fa h KX G hmg
    refine' Lw.all_mk KX G hmg ?a0 ?l0 ?c0 ?k0 ?a1 ?l1 ?c1 ?k1 ?a2 ?l2 ?c2 ?k2 ?a3 ?l3 ?c3 ?k3 ?a4 ?l4 ?c4 ?k4 ?a5 ?l5 ?c5 ?k5 ?a6 ?l6 ?c6 ?k6 ?a7 ?l7 ?c7 ?k7 ?a8 ?l8 ?c8 ?k8 ?a9 ?l9 ?c9 ?k9 ?a10 ?l10 ?c10 ?k10 ?z_abs ?z_int ?z_len ?z_range ?z_repr ?z_isinstance ?z_list ?z_enumerate ?z_str ?z_tuple ?z_ValueError ?xa0 ?xl0 ?xs0 ?xg0 ?xh0 ?xw0 ?xi0 ?xt0 ?xy0 ?xz0 ?xk0 ?xb0 ?xe0 ?xj0 ?xd0 ?xv0 ?xu0 ?xa1 ?xl1 ?xs1 ?xg1 ?xh1 ?xw1 ?xi1 ?xt1 ?xy1 ?xz1 ?xk1 ?xb1 ?xe1 ?xj1 ?xd1 ?xv1 ?xu1 ?xa2 ?xl2 ?xs2 ?xg2 ?xh2 ?xw2 ?xi2 ?xt2 ?xy2 ?xz2 ?xk2 ?xb2 ?xe2 ?xj2 ?xd2 ?xv2 ?xu2 ?xa3 ?xl3 ?xs3 ?xg3 ?xh3 ?xw3 ?xi3 ?xt3 ?xy3 ?xz3 ?xk3 ?xb3 ?xe3 ?xj3 ?xd3 ?xv3 ?xu3 ?xa4 ?xl4 ?xs4 ?xg4 ?xh4 ?xw4 ?xi4 ?xt4 ?xy4 ?xz4 ?xk4 ?xb4 ?xe4 ?xj4 ?xd4 ?xv4 ?xu4 ?xa5 ?xl5 ?xs5 ?xg5 ?xh5 ?xw5 ?xi5 ?xt5 ?xy5 ?xz5 ?xk5 ?xb5 ?xe5 ?xj5 ?xd5 ?xv5 ?xu5 ?yaO ?ykO ?yqO ?yaD ?ykD ?yqD ?yaL ?yqL
    (case a0 => k_is)
    (case l0 => k_is)
    (case c0 => k_is)
    (case k0 => k_is)
    (case a1 => k_is)
    (case l1 => k_is)
    (case c1 => k_is)
    (case k1 => k_is)
    (case a2 => k_is)
    (case l2 => k_is)
    (case c2 => k_is)
    (case k2 => k_is)
    (case a3 => k_is)
    (case l3 => k_is)
    (case c3 => k_is)
    (case k3 => k_is)
    (case a4 => k_is)
    (case l4 => k_is)
    (case c4 => k_is)
    (case k4 => k_is)
    (case a5 => k_is)
    (case l5 => k_is)
    (case c5 => k_is)
    (case k5 => k_is)
    (case a6 => k_is)
    (case l6 => k_is)
    (case c6 => k_is)
    (case k6 => k_is)
    (case a7 => k_is)
    (case l7 => k_is)
    (case c7 => k_is)
    (case k7 => k_is)
    (case a8 => k_is)
    (case l8 => k_is)
    (case c8 => k_is)
    (case k8 => k_is)
    (case a9 => k_is)
    (case l9 => k_is)
    (case c9 => k_is)
    (case k9 => k_is)
    (case a10 => k_is)
    (case l10 => k_is)
    (case c10 => k_is)
    (case k10 => k_is)
    (case z_abs => k_is)
    (case z_int => k_is)
    (case z_len => k_is)
    (case z_range => k_is)
    (case z_repr => k_is)
    (case z_isinstance => k_is)
    (case z_list => k_is)
    (case z_enumerate => k_is)
    (case z_str => k_is)
    (case z_tuple => k_is)
    (case z_ValueError => k_is)
    (case xa0 => k_is)
    (case xl0 => k_is)
    (case xs0 => k_is)
    (case xg0 => k_is)
    (case xh0 => k_is)
    (case xw0 => k_is)
    (case xi0 => k_is)
    (case xt0 => k_is)
    (case xy0 => k_is)
    (case xz0 => k_is)
    (case xk0 => k_is)
    (case xb0 => k_is)
    (case xe0 => k_is)
    (case xj0 => k_is)
    (case xd0 => k_is)
    (case xv0 => k_is)
    (case xu0 => first | rfl | k_is)
    (case xa1 => k_is)
    (case xl1 => k_is)
    (case xs1 => k_is)
    (case xg1 => k_is)
    (case xh1 => k_is)
    (case xw1 => k_is)
    (case xi1 => k_is)
    (case xt1 => k_is)
    (case xy1 => k_is)
    (case xz1 => k_is)
    (case xk1 => k_is)
    (case xb1 => k_is)
    (case xe1 => k_is)
    (case xj1 => k_is)
    (case xd1 => k_is)
    (case xv1 => k_is)
    (case xu1 => first | rfl | k_is)
    (case xa2 => k_is)
    (case xl2 => k_is)
    (case xs2 => k_is)
    (case xg2 => k_is)
    (case xh2 => k_is)
    (case xw2 => k_is)
    (case xi2 => k_is)
    (case xt2 => k_is)
    (case xy2 => k_is)
    (case xz2 => k_is)
    (case xk2 => k_is)
    (case xb2 => k_is)
    (case xe2 => k_is)
    (case xj2 => k_is)
    (case xd2 => k_is)
    (case xv2 => k_is)
    (case xu2 => first | rfl | k_is)
    (case xa3 => k_is)
    (case xl3 => k_is)
    (case xs3 => k_is)
    (case xg3 => k_is)
    (case xh3 => k_is)
    (case xw3 => k_is)
    (case xi3 => k_is)
    (case xt3 => k_is)
    (case xy3 => k_is)
    (case xz3 => k_is)
    (case xk3 => k_is)
    (case xb3 => k_is)
    (case xe3 => k_is)
    (case xj3 => k_is)
    (case xd3 => k_is)
    (case xv3 => k_is)
    (case xu3 => first | rfl | k_is)
    (case xa4 => k_is)
    (case xl4 => k_is)
    (case xs4 => k_is)
    (case xg4 => k_is)
    (case xh4 => k_is)
    (case xw4 => k_is)
    (case xi4 => k_is)
    (case xt4 => k_is)
    (case xy4 => k_is)
    (case xz4 => k_is)
    (case xk4 => k_is)
    (case xb4 => k_is)
    (case xe4 => k_is)
    (case xj4 => k_is)
    (case xd4 => k_is)
    (case xv4 => k_is)
    (case xu4 => first | rfl | k_is)
    (case xa5 => k_is)
    (case xl5 => k_is)
    (case xs5 => k_is)
    (case xg5 => k_is)
    (case xh5 => k_is)
    (case xw5 => k_is)
    (case xi5 => k_is)
    (case xt5 => k_is)
    (case xy5 => k_is)
    (case xz5 => k_is)
    (case xk5 => k_is)
    (case xb5 => k_is)
    (case xe5 => k_is)
    (case xj5 => k_is)
    (case xd5 => k_is)
    (case xv5 => k_is)
    (case xu5 => first | rfl | k_is)
    (case yaO => k_is)
    (case ykO => k_is)
    (case yqO => first | kernel_rfl | rfl | with_unfolding_all rfl)
    (case yaD => k_is)
    (case ykD => k_is)
    (case yqD => first | kernel_rfl | rfl | with_unfolding_all rfl)
    (case yaL => k_is)
    (case yqL => first | kernel_rfl | rfl | with_unfolding_all rfl)
