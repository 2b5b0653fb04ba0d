import PyProof.Rows.All
import Wide.All
import OpenK.AllK
import Wide.FinOn
import HandS.ForMost
import HandS.IsInst
import HandS.Walk
import HandS.ForExc
import HandS.ExcInit
import KE.KExcIs
import PyProof.ReprRoads
import PyProof.ReprLen
import KE.OsRunLaw
import PySem.Challenge.RW_orplaces_k01_errors_and_their_parts
set_option Elab.async false
set_option linter.all false
set_option maxRecDepth 100000
set_option maxHeartbeats 0
/-! A proof by hand, def by def: each def's promise, its body as a term of the hand layer's rules, its reading; the end. -/
namespace Lx
open PySem PySem.Spec PyProof.Rows L2
/-! ### defs that ask for repr: nothing is being shown when they are called -/
/-- nothing is being shown -/
def Calm (A : Around) : Prop := A.guards = some []
theorem Calm.deeper {A : Around} (c : Calm A) (env : Env) : Calm (A.deeper env) := by
  have e : (A.deeper env).guards = A.guards := by first | rfl | simp [Around.deeper]
  exact e.trans c
/-- a def's promise, kept where nothing is being shown -/
structure FnG (P : Program) (w : World) (K : PySem.W.Frag) (mg : Str → Option Value) (base : Heap) (n : Nat) (g : Addr) (gd : FuncData) (names : List Str) (sp : Sp) : Prop where
  count : ∀ xs H Q E, sp xs H Q E → xs.length = names.length
  go : ∀ (A : Around) (outs : List Env) (st : Shared) (H : Hp) (given : Args) (us : List Value) (xs : List V) (Q : VK) (E : XK),
    Calm A → Room n A → Env0 P w K mg base A outs st H → BindsTo st gd given (names.zip us) → Vals xs us → sp xs H Q E →
    codeAny (model P w) A (.call (.ref g) given) (CR CX0 outs P w H st Q E) st
section
variable {P : Program} {w : World} {K : PySem.W.Frag} {mg : Str → Option Value} {base : Heap} {n : Nat} {g : Addr} {gd : FuncData} {names : List Str} {sp : Sp}
theorem FnG.of (F : FnOk P w K mg base CX0 n g gd names sp) : FnG P w K mg base n g gd names sp :=
  ⟨F.len, fun A outs st H given us xs Q E _ => F.run A outs st H given us xs Q E⟩
theorem okG {x qual : Str} {st : Stmt} {N : List Str} (F : Fun K x qual st g gd) (S : FnScope N names (defScope st)) (count : ∀ xs H Q E, sp xs H Q E → xs.length = names.length)
    (body : ∀ (cv : Value) (A : Around) (outs : List Env) (s0 : Shared) (H : Hp) (xs : List V) (Q : VK) (E : XK), Calm (A.deeper (envOfC qual (defScope st) s0.heap.objs.size g cv)) →
      Room n (A.deeper (envOfC qual (defScope st) s0.heap.objs.size g cv)) → sp xs H Q E →
      ∃ t, PSs (cxOf CX0 P w K mg base N qual (defScope st) g cv A outs s0 H E).nox (defBody st) t ∧ t { nx := fun _ H' => Q .non H', rt := Q } (start N xs) H) : FnG P w K mg base (n + 1) g gd names sp := by
  obtain ⟨c0, o0, k0, d0, p0, a0, cv, t0, sl0, rfl, at0, code0⟩ := F.ex
  refine ⟨count, fun A outs s0 H given us xs Q E calm room e0 bound rel hsp => ?_⟩
  have keep0 := fun b o e => (e0.bs b o e).1
  have KX : K.In s0.heap := e0.mod.kin.keeps keep0
  have lim0 : s0.heap.NoLimit := e0.mod.nolimit.keeps keep0
  refine codeAny_call_function room.depth (KX _ _ at0) rfl S.co S.gen rfl (PySem.W.codeRec_of KX code0) (bound _ _ _ _ ?_)
  refine wpAny_newFunctionEnv_cells S.kind (fun ⟨y, v⟩ hy => ?_) fun en envE s1 ic => ?_
  · exact (S.par y (List.of_mem_zip hy).1).elim (fun q => .inl q) fun q => .inr ⟨q, PySem.W.cellsFrom_some _ _ _ (.inl q)⟩
  subst envE
  refine ⟨lim0.keeps ic.toInCall.keep, codeAny_func ?_⟩
  obtain ⟨t, ht, hq⟩ := body cv A outs s0 H xs Q E (calm.deeper _) (room.deeper _) hsp
  have I := inv_start (CX := CX0) (E := E) S room.hd e0 (count _ _ _ _ hsp) rel ic
  refine wpAny_mono (ht.nox.run [] s1 (start N xs) H _ I hq) (fun fl s2 hs => ?_) fun _ _ hs => hs
  cases fl with
  | ret u =>
    obtain ⟨v, σ2, H2, J, rv, q⟩ := hs
    exact ⟨v, H2, J.os, J.bare, J.base, J.hok, rv, q⟩
  | next =>
    obtain ⟨σ2, H2, J, q⟩ := hs
    exact ⟨V.non, H2, J.os, J.bare, J.base, J.hok, rfl, q⟩
  | brk =>
    obtain ⟨_, _, _, q⟩ := hs
    exact q.elim
  | cont =>
    obtain ⟨_, _, _, q⟩ := hs
    exact q.elim
end
/-- f(e, ..) of such a def -/
theorem pe_callG {X : Cx} {k : Nat} {f : Addr} {fd : FuncData} {ps : List Str} {sp : Sp} {x : Str} {p pos : Pos} {e : Expr} {es : List Expr} {t : TA} (F : FnG X.prog X.w X.K X.mg X.base k f fd ps sp) (calm : Calm X.A) (room : Room k X.A) (gl : Gl X x) (at_ : X.mg x = some (.ref f))
    (kp : PySem.W.keepIn X.K (.ref f) = true) (b : Binds X.K fd ps []) (ha : PA X (e :: es) t) (ndb : (x == ("__debug__" : Str)) = false := by decide) (se : starEach (e :: es) X.env = (false, eval e X.env) :: starEach es X.env := by rfl)
    (ns : (backTo pos (starEach es X.env)).any (·.1) = false := by rfl) : PE X (.Call (.Name x p) (e :: es) [] pos) (tCall sp [] E0 t) := by
  refine ⟨fun pins s σ H Q I h => wpAny_Call_Name_kw (ld_glob I gl at_ ?_ ndb)⟩
  refine PySem.W.callWith_K (h₀ := X.base) I.ok.mod.kin kp (thn (ha.run pos pins s σ H _ I h) fun us s1 hh => ?_) se ns
  obtain ⟨xs, H1, I1, r1, q1⟩ := hh
  rw [List.append_nil] at q1
  refine ⟨I1.kIn, wpAny_call (codeAny_mono (F.go X.A X.stack s1 H1 ⟨us, []⟩ us xs Q E0 calm room I1.env0 ?_ r1 q1) fun r s2 hr => ?_)⟩
  · have bb := b s1 us I1.kIn (by rw [List.append_nil, ← r1.length]; exact F.count _ _ _ _ q1)
    rw [List.append_nil] at bb
    exact bb
  · cases r with
    | error _ => exact False.elim hr
    | ok fl =>
      cases fl with
      | ret u => exact I1.after hr
      | next => exact False.elim hr
      | brk => exact False.elim hr
      | cont => exact False.elim hr
end Lx
namespace Lx
open PySem PySem.Spec PyProof.Rows L2
/-! ### a law whose def asks for repr: its call at the top -/
section
variable {P : Program} {w : World} {K : PySem.W.Frag} {mg mb : Str → Option Value} {k : Nat} {fa a : Addr} {fd : FuncData} {x : Str} {sp : Sp} {s₁ : Shared} {vs : List Value} {ns : List Int}
/-- from one abstract heap: nothing but the script at a is told -/
theorem top_core (KX : K.In s₁.heap) (hns : s₁.heap.Ns mainGlobals mg) (hb : s₁.heap.Ns builtinsNs mb) (hbb : ∀ x : Str, x ≠ "__name__" → mb x = bootBuiltins x) (hlim : s₁.heap.NoLimit) (hg : s₁.gens = #[])
    (ha : s₁.heap.get? a = some { cls := .type "list", data := .seq vs.toArray }) (room : Room k callerA) (F : ∀ base : Heap, K.In base → base.Ns mainGlobals mg → FnG P w K mg base k fa fd [x] sp)
    (bind1 : ∀ (s : Shared) (u : Value), BindsTo s fd ⟨[u], []⟩ [(x, u)]) (H : Hp) (only : Only H) (hok : HOk P w H s₁.heap) (sole : ∀ b, H b ≠ none → b = a) (notK : H a ≠ none → K.lookup a = none)
    (hsp : sp [.ref a] H (fun v _ => v = .bl true) fun _ _ _ => False) :
    codeAny (model P w) callerA (.call (.ref fa) ⟨[.ref a], []⟩) (fun r s' => r = .ok (.ret (.bool true)) ∧ OldK s₁.heap s'.heap ∧ s'.os = s₁.os ∧ AllBare s'.gens) s₁ := by
  have told : ∀ {b : Addr} {u : HO}, H b = some u → b = a := fun q => sole _ (by rw [q]; simp)
  have dicts : ∀ {b : Addr} {o : Obj} {es : Array DictEntry} {ep : Nat}, s₁.heap.get? b = some o → o.data = .dict es ep → H b = none := fun {b o es ep} e d => by
    cases q : H b with
    | none => rfl
    | some u =>
      cases told q
      cases ha.symm.trans e
      cases d
  have spaces : ∀ {b : Addr} {m : Str → Option Value}, s₁.heap.Ns b m → (hidT s₁.heap H).Ns b m := fun ⟨o, es, ep, e, d, r⟩ => ⟨o, es, ep, hidT_get e (dicts e d), d, r⟩
  have inB : K.In (hidT s₁.heap H) := fun b o e => by
    refine hidT_get (KX b o e) ?_
    cases q : H b with
    | none => rfl
    | some u =>
      cases told q
      cases (notK (by rw [q]; simp)).symm.trans e
  obtain ⟨mc, lim1, lim2⟩ := hlim
  have md : Mod K mg (hidT s₁.heap H) := ⟨inB, spaces hns, ⟨mb, spaces hb, hbb⟩, mc, spaces lim1, lim2⟩
  have env : Env0 P w K mg (hidT s₁.heap H) callerA [] s₁ H := ⟨rfl, md, fun _ _ e => of_hidT e, Nat.le_of_eq (hidT_size _ _), trivial, fun b q => by simp [frs] at q, hok, .of_eq hg⟩
  have ran := (F _ inB (spaces hns)).go callerA [] s₁ H ⟨[.ref a], []⟩ [.ref a] [.ref a] _ _ rfl room env (bind1 s₁ (.ref a)) (.cons rfl .nil) hsp
  refine codeAny_mono ran fun r s' h => ?_
  cases r with
  | error _ => exact False.elim h
  | ok fl =>
    cases fl with
    | next => exact False.elim h
    | brk => exact False.elim h
    | cont => exact False.elim h
    | ret u =>
      obtain ⟨v, H', os, bare, un, hok', rel, q⟩ := h
      cases (q : v = .bl true)
      cases (rel : u = Value.bool true)
      refine ⟨rfl, OldK.of_keep fun b o e => ?_, os, bare⟩
      cases q : H b with
      | none => exact un.keep b o e q (fun z => by simp [frs] at z) (by simp)
      | some u =>
        rcases only b with z | ⟨ob, xs, z⟩
        · cases q.symm.trans z
        · have e1 := (hok b _ z).1
          have e2 := (hok' b _ (un.frzs b ob _ z)).1
          cases e.symm.trans e1
          exact e2
theorem top_call (KX : K.In s₁.heap) (hns : s₁.heap.Ns mainGlobals mg) (hb : s₁.heap.Ns builtinsNs mb) (hbb : ∀ x : Str, x ≠ "__name__" → mb x = bootBuiltins x) (hlim : s₁.heap.NoLimit) (hg : s₁.gens = #[])
    (ha : s₁.heap.get? a = some { cls := .type "list", data := .seq vs.toArray }) (hi : IntsAre vs ns) (hl : ns.length ≤ sizeLine) (room : Room k callerA)
    (F : ∀ base : Heap, K.In base → base.Ns mainGlobals mg → FnG P w K mg base k fa fd [x] sp) (bind1 : ∀ (s : Shared) (u : Value), BindsTo s fd ⟨[u], []⟩ [(x, u)])
    (hsp : ∀ H : Hp, Only H → SqL K H a (ns.map V.int) → sp [.ref a] H (fun v _ => v = .bl true) fun _ _ _ => False) :
    codeAny (model P w) callerA (.call (.ref fa) ⟨[.ref a], []⟩) (fun r s' => r = .ok (.ret (.bool true)) ∧ OldK s₁.heap s'.heap ∧ s'.os = s₁.os ∧ AllBare s'.gens) s₁ := by
  have rv := vals_ints hi
  by_cases hk : K.lookup a = none
  · let H : Hp := fun b => if b = a then some (.frz { cls := .type "list", data := .seq vs.toArray } (.lst (ns.map V.int))) else none
    have at_a : H a = some (.frz { cls := .type "list", data := .seq vs.toArray } (.lst (ns.map V.int))) := if_pos rfl
    have off_a : ∀ {b : Addr}, b ≠ a → H b = none := fun n => if_neg n
    have sole : ∀ b, H b ≠ none → b = a := fun b n => Classical.byContradiction fun h => n (off_a h)
    have only : Only H := fun b => by
      by_cases h : b = a
      · subst h
        exact .inr ⟨_, _, at_a⟩
      · exact .inl (off_a h)
    refine top_core KX hns hb hbb hlim hg ha room F bind1 H only (fun b u z => ?_) sole (fun _ => hk) (hsp H only (.inl (.inr ⟨_, at_a⟩)))
    cases sole b (by rw [z]; simp)
    cases at_a.symm.trans z
    exact ⟨ha, by rw [List.length_map]; exact hl, vs, _, rv, ha⟩
  · obtain ⟨o, ho⟩ := Option.ne_none_iff_exists'.mp hk
    cases ha.symm.trans (KX a o ho)
    have only : Only fun _ => none := fun _ => .inl rfl
    refine top_core KX hns hb hbb hlim hg ha room F bind1 (fun _ => none) only (fun b u z => by cases z) (fun b z => absurd rfl z) (fun z => absurd rfl z) (hsp _ only (.inr ⟨_, vs.toArray, _, ho, rfl, rfl, rfl, ?_, by simpa using rv⟩))
    rw [List.size_toArray, hi.length]
    exact hl
end
theorem walkG {l : PySem.W.OpenLaw} {n k : Nat} {q : Program} {loose : List Str} {XP : (Str → Option Value) → Heap → Prop} {YP : World → Heap → Prop} {d : DefRec} {K : Params → PySem.W.Frag} {sp : World → Sp} {x : Str}
    (hn : l.most = some n) (hn2 : n ≤ sizeLine) (hdf : d.params.defaults = []) (room : Room k callerA) (hY : ∀ (w : World) (h : Heap), YP w h → (K w.params).In h)
    (F : ∀ (w : World) (mg : Str → Option Value) (fa : Addr) (h : Heap), (K w.params).In h → h.Ns mainGlobals mg → mg d.name = some (.ref fa) →
      ∃ fd : FuncData, (∀ (s : Shared) (u : Value), BindsTo s fd ⟨[u], []⟩ [(x, u)]) ∧ ∀ base : Heap, (K w.params).In base → base.Ns mainGlobals mg → FnG l.prog w (K w.params) mg base k fa fd [x] (sp w))
    (hsp : ∀ (w : World) (H : Hp) (a : Addr) (ns : List Int), ns.length ≤ n → Only H → SqL (K w.params) H a (ns.map V.int) → sp w [.ref a] H (fun v _ => v = .bl true) fun _ _ _ => False) :
    PySem.W.WalkO q loose XP YP l.row.toRowW d [] (fun f vs => PySem.call f vs) := by
  refine Att.attach_call hn hdf fun w s₀ s₁ mg mb fa o pm cd doc a vs ns G Y ho hd hcd hmg hobj hints hlen hg => ?_
  obtain ⟨fd, bind1, F1⟩ := F w mg fa _ (hY w _ Y) G.T.g hmg
  exact top_call (hY w _ Y) G.T.g G.T.b G.T.builtins G.T.nolimit hg hobj hints (Nat.le_trans hlen hn2) room F1 bind1 fun H only hS => hsp w H a ns hlen only hS
end Lx
namespace Lx
open PySem PySem.Spec PyProof.Rows L2
/-! ### repr of data: flat things, lists and tuples at any depth, dicts of flat things -/
def dKey : Key → PyData
  | .inl i => .int i
  | .inr x => .str x
inductive FlatV : V → PyData → Prop
  | non : FlatV .non .none
  | bl (b : Bool) : FlatV (.bl b) (.bool b)
  | int (i : Int) : FlatV (.int i) (.int i)
  | str (x : Str) : FlatV (.str x) (.str x)
def FlatKv : List (Key × V) → List (PyData × PyData) → Prop := Paired fun kv e => e.1 = dKey kv.1 ∧ FlatV kv.2 e.2
def ShowAt (K : PySem.W.Frag) (H : Hp) (v : V) (d : PyData) : Prop :=
  Dp K H v d ∨ ∃ (a : Addr) (kvs : List (Key × V)) (ds : List (PyData × PyData)), v = .ref a ∧ H a = some (.dK kvs) ∧ d = .dict ds ∧ FlatKv kvs ds
theorem FlatV.reads {h : Heap} {v : V} {d : PyData} {u : Value} (f : FlatV v d) (r : RelV v u) : Reads h u d [] := by
  cases f with
  | non => cases (r : u = .none); exact .none
  | bl b => cases (r : u = .bool b); exact .bool b
  | int i => obtain ⟨t, rfl⟩ := (r : ∃ t, u = .int i t); exact .int i t
  | str x => obtain ⟨t, rfl⟩ := (r : ∃ t, u = .str x t); exact .str x t
theorem pairs_read {P : Program} {w : World} {h : Heap} : ∀ {es : List DictEntry} {vs : List (Key × Value)} {kvs : List (Key × V)} {ds : List (PyData × PyData)}, Pairs (mixKind P w) es vs → KV kvs vs → FlatKv kvs ds →
    ReadsAll h (es.map (·.key)) (ds.map (·.1)) [] ∧ ReadsAll h (es.map (·.val)) (ds.map (·.2)) []
  | _, _, _, _, .nil, .nil, .nil => ⟨.nil, .nil⟩
  | _, _, _, _, .cons (e := e) ik iv pr, .cons ⟨k1, k2⟩ kr, .cons ⟨f1, f2⟩ fr => by
    obtain ⟨h1, h2⟩ := pairs_read (h := h) pr kr fr
    have q := FlatV.reads (h := h) f2 k2
    rw [← iv] at q
    refine ⟨?_, .cons (as := []) (bs := []) q h2⟩
    rw [List.map_cons, List.map_cons, f1, k1]
    rcases keyIs_shape ik with ⟨i, t, e1, e2⟩ | ⟨x, t, e1, e2⟩
    · rw [e1, e2]
      exact .cons (as := []) (bs := []) (.int i t) h1
    · rw [e1, e2]
      exact .cons (as := []) (bs := []) (.str x t) h1
mutual
theorem dp_noDict {K : PySem.W.Frag} {H : Hp} : ∀ (d : PyData) (v : V), Dp K H v d → d.hasDict = false
  | .none, _, _ => by simp only [PyData.hasDict]
  | .bool _, _, _ => by simp only [PyData.hasDict]
  | .int _, _, _ => by simp only [PyData.hasDict]
  | .str _, _, _ => by simp only [PyData.hasDict]
  | .list xs, _, h => by
    cases h with
    | lst _ ha => simp only [PyData.hasDict, dpAll_noDict xs _ ha]
  | .tuple xs, _, h => by
    cases h with
    | tup _ ha => simp only [PyData.hasDict, dpAll_noDict xs _ ha]
  | .dict _, _, h => by cases h
theorem dpAll_noDict {K : PySem.W.Frag} {H : Hp} : ∀ (ds : List PyData) (vs : List V), DpAll K H vs ds → PyData.hasDictAll ds = false
  | [], _, _ => by simp only [PyData.hasDictAll]
  | d :: ds, _, h => by
    cases h with
    | cons h1 h2 => simp only [PyData.hasDictAll, dp_noDict d _ h1, dpAll_noDict ds _ h2, Bool.or_self]
end
section
variable {X : Cx} {pins : List (Addr × Obj)} {σ : L2.St} {H : Hp} {s : Shared}
theorem ShowAt.reads {v : V} {d : PyData} {u : Value} (I : Inv X pins σ H s) (f : ShowAt X.K H v d) (r : RelV v u) : ∃ as, Reads s.heap u d as ∧ (d.hasDict = true → sysModules ∉ as) := by
  rcases f with f | ⟨a, kvs, ds, rfl, ha, rfl, f⟩
  · obtain ⟨as, q⟩ := Dp.reads I d v u f r
    exact ⟨as, q, PyData.noDict_hsm (dp_noDict d v f)⟩
  · cases (r : u = .ref a)
    obtain ⟨_, ns, vs, kv, o, es, ep, h1, h2, h3, _, h5, _⟩ := (show ObjOk X.prog X.w H s.heap a (.dK kvs) from I.hok a _ ha)
    obtain ⟨r1, r2⟩ := pairs_read (h := s.heap) h5 kv f
    refine ⟨a :: [] ++ [], .dict h1 h2.1 h3 r1 r2, fun _ hm => ?_⟩
    have e : sysModules = a := by simpa using hm
    rw [← e] at ns
    simp at ns
theorem call_reprS (calm : Calm X.A) (hu : X.A.units + 64 < cLine) : CallR X (.builtin "repr") (fun xs H Q => ∃ v d, xs = [v] ∧ ShowAt X.K H v d ∧ d.showable = true ∧ d.depth ≤ 60 ∧ d.shown.length ≤ sizeLine ∧ Q (.str d.shown) H) := by
  intro pins s σ H xs us Q I r h
  obtain ⟨v, d, rfl, f, sh, dp, sz, q⟩ := h
  obtain ⟨u, rfl, ru⟩ : ∃ u, us = [u] ∧ RelV v u := by
    cases r with
    | cons r1 r2 =>
      cases r2
      exact ⟨_, rfl, r1⟩
  obtain ⟨as, rd, hsm⟩ := f.reads I ru
  have done : ∀ (h' : Heap) (t : Tok) (tk : Nat), (∀ b o, s.heap.get? b = some o → h'.get? b = some o) → EP X pins σ Q (.str d.shown t) { s with heap := h', toks := tk } := fun h' t tk k => ⟨.str d.shown, H, I.kept (t' := tk) k, ⟨_, rfl⟩, q⟩
  cases rd with
  | none => exact PySem.P.repr_of_none (done s.heap _ _ fun _ _ e => e)
  | bool b => exact PySem.P.repr_of_bool (done s.heap _ _ fun _ _ e => e)
  | int i t => exact PySem.P.repr_of_int (by simpa [PyData.showable] using sh) (done s.heap _ _ fun _ _ e => e)
  | str x t => exact PySem.P.repr_of_str (done s.heap _ _ fun _ _ e => e) sz
  | list a1 a2 a3 a4 => exact repr_of_reads' (.list a1 a2 a3 a4) sh hsm calm (by omega) (fun _ _ e => e) done sz
  | tuple a1 a2 a3 a4 => exact repr_of_reads' (.tuple a1 a2 a3 a4) sh hsm calm (by omega) (fun _ _ e => e) done sz
  | dict a1 a2 a3 a4 a5 => exact repr_of_reads' (.dict a1 a2 a3 a4 a5) sh hsm calm (by omega) (fun _ _ e => e) done sz
end
end Lx
namespace Lx
open PySem PySem.Spec PyProof.Rows L2
/-! ### an own exception held as a value: made, its attributes read, its class asked -/
/-- what the written part says of an exception class at C whose __init__ stands at g -/
structure ExK (K : PySem.W.Frag) (C g : Addr) : Prop where
  oex : OexC K C
  init : PySem.W.findIn K (.ref C) "__init__" = some (some (.ref g))
  ifn : PySem.W.typeIn K (.ref g) = some (.type "function")
  ga : PySem.W.findIn K (.ref C) "__getattribute__" = some (some (.builtin "BaseException.__getattribute__"))
  gg : PySem.W.findIn K (.ref C) "__getattr__" = some none
  cls : PySem.W.findIn K (.ref C) "__class__" = some (some (.builtin "object.__class__"))
  dct : PySem.W.hasDictIn K C = true
  is : (PySem.W.clsIn K C).isSome = true
  ob : PySem.W.mroIn K C (.type "object") = some true
/-- of __class__ itself -/
structure ClsK (K : PySem.W.Frag) : Prop where
  get : PySem.W.specialIn K (.builtin "object.__class__") "__get__" = some (some (.builtin "getset_descriptor.__get__"))
  takes : PySem.W.takesIn K (.builtin "object.__class__") = some true
def tMkV (C : Addr) (sp : Sp) (t : TA) : TE := fun σ H Q => t σ H fun vs H1 => vs.length ≤ 1000 ∧ ∀ a, H1 a = none → sp (.ref a :: vs) (upd H1 a (exo a C none)) (fun v H2 => v = .non ∧ Q (.ref a) H2) E0
section
variable {X : Cx} {C g : Addr} {k : Nat} {fd : FuncData} {ps : List Str} {sp : Sp}
theorem run_excV {pins : List (Addr × Obj)} {σ : L2.St} {H : Hp} {s : Shared} {Q : VK} {us : List Value} {vs : List V} (T : ExK X.K C g) (F : FnOk X.prog X.w X.K X.mg X.base CX0 k g fd ps sp) (room : Room (k + 1) X.A) (b : Binds X.K fd ps [])
    (I : Inv X pins σ H s) (r : Vals vs us) (short : vs.length ≤ 1000) (h : ∀ a, H a = none → sp (.ref a :: vs) (upd H a (exo a C none)) (fun v H2 => v = .non ∧ Q (.ref a) H2) E0) :
    wpAny (model X.prog X.w) X.A (call (.ref C) us) (EP X pins σ Q) X.xe s := by
  obtain ⟨nm, q, N, bs, bm, sn, sub, ab, col, dd, k0, k1, k2, k3, k5, hC, hbm⟩ := T.oex.cls
  obtain ⟨hp, ge, dr, tk, os⟩ := s
  have up : hp.objs.size ≤ hp.objs.size + 1 := Nat.le_succ _
  have ask := h (hp.objs.size + 1) (I.hok.fresh up)
  have made : ((hp.push (PySem.W.kdv_tup us)).push (PySem.HandSPX.excO C hp.objs.size)).get? (hp.objs.size + 1) = some (PySem.HandSPX.excO C hp.objs.size) := by heap_get
  have I2 : Inv X pins σ (upd H (hp.objs.size + 1) (exo (hp.objs.size + 1) C none)) ⟨(hp.push (PySem.W.kdv_tup us)).push (PySem.HandSPX.excO C hp.objs.size), ge, dr, tk, os⟩ :=
    I.laid (t' := tk) (fun _ _ e => Heap.get?_push_of_some _ (Heap.get?_push_of_some _ e)) up (exo_ok made)
  have r2 : Vals (V.ref (hp.objs.size + 1) :: vs) (Value.ref (hp.objs.size + 1) :: us) := .cons rfl r
  have names : (Value.ref (hp.objs.size + 1) :: us).length = ps.length := by rw [← F.len _ _ _ _ ask, r2.length]
  have bound := b ⟨(hp.push (PySem.W.kdv_tup us)).push (PySem.HandSPX.excO C hp.objs.size), ge, dr, tk, os⟩ (Value.ref (hp.objs.size + 1) :: us) I2.kIn (by rw [List.append_nil]; exact names)
  rw [List.append_nil] at bound
  have line : us.length ≤ sizeLine := by
    rw [← Paired.length r, sizeLine_eq]
    omega
  have body := F.run _ X.stack _ _ ⟨Value.ref (hp.objs.size + 1) :: us, []⟩ (Value.ref (hp.objs.size + 1) :: us) (V.ref (hp.objs.size + 1) :: vs) _ E0 (room.make C us []) (I2.env0.make C us []) bound r2 ask
  refine wpAny_call (PySem.HandSPX.call_own PySem.F.excBase_ValueError (fun Y => PySem.HandSPX.refsVE_contains Y bm hbm) (I.kIn _ _ hC) (PySem.W.looks_findIn I.kIn T.init) (fun self => PySem.W.bind_fn I.kIn self T.ifn) line (codeAny_mono body fun res s2 got => ?_))
  cases res with
  | error _ => exact False.elim got
  | ok fl =>
    cases fl with
    | ret u =>
      obtain ⟨v, H2, J, rv, ev, q2⟩ := I2.after got
      subst ev
      exact ⟨rv, .ref (hp.objs.size + 1), H2, J, rfl, q2⟩
    | next => exact False.elim got
    | brk => exact False.elim got
    | cont => exact False.elim got
variable {x : Str} {p pos : Pos} {e : Expr} {es : List Expr} {t : TA} {te : TE} {nm : Str}
/-- C(e, ..) as a value -/
theorem pe_excV (T : ExK X.K C g) (F : FnOk X.prog X.w X.K X.mg X.base CX0 k g fd ps sp) (room : Room (k + 1) X.A) (b : Binds X.K fd ps []) (gl : Gl X x) (at_ : X.mg x = some (.ref C)) (ha : PA X (e :: es) t) (ndb : (x == ("__debug__" : Str)) = false := by decide)
    (se : starEach (e :: es) X.env = (false, eval e X.env) :: starEach es X.env := by rfl) (ns : (backTo pos (starEach es X.env)).any (·.1) = false := by rfl) : PE X (.Call (.Name x p) (e :: es) [] pos) (tMkV C sp t) := by
  refine ⟨fun pins s σ H Q I h => wpAny_Call_Name_kw (ld_glob I gl at_ ?_ ndb)⟩
  refine PySem.W.callWith_K (h₀ := X.base) I.ok.mod.kin T.oex.kC (thn (ha.run pos pins s σ H _ I h) fun us s1 hh => ?_) se ns
  obtain ⟨vs, H1, I1, r1, short, q1⟩ := hh
  exact ⟨I1.kIn, run_excV T F room b I1 r1 short q1⟩
/-- C() as a value -/
theorem pe_excV0 (T : ExK X.K C g) (F : FnOk X.prog X.w X.K X.mg X.base CX0 k g fd ps sp) (room : Room (k + 1) X.A) (b : Binds X.K fd ps []) (gl : Gl X x) (at_ : X.mg x = some (.ref C)) (ndb : (x == ("__debug__" : Str)) = false := by decide) :
    PE X (.Call (.Name x p) [] [] pos) (tMkV C sp tNil) := by
  refine ⟨fun pins s σ H Q I h => wpAny_Call_Name_kw (ld_glob I gl at_ ?_ ndb)⟩
  exact PySem.W.callWith_K0 I.kIn T.oex.kC (run_excV (us := []) T F room b I .nil h.1 h.2)
/-- e.nm, e such an exception with that attribute of its own -/
def tAtt (K : PySem.W.Frag) (nm : Str) (te : TE) : TE := fun σ H Q => te σ H fun y H1 => ∃ (a C g d : Addr) (fs : List (Str × V)) (v : V), y = .ref a ∧ ExK K C g ∧ PySem.W.findIn K (.ref C) nm = some none ∧ H1 a = some (exo a C (some d)) ∧ H1 d = some (exd d fs) ∧ fs.lookup nm = some v ∧ Q v H1
theorem pe_att (he : PE X e te) (hb : attributeBase e nm X.env (eval e X.env) = eval e X.env := by rfl) : PE X (.Attribute e nm pos) (tAtt X.K nm te) := by
  refine ⟨fun pins s σ H Q I h => attr_of hb (thn (he.run pins s σ H _ I h) fun u s1 hh => ?_)⟩
  obtain ⟨y, H1, I1, ry, a, C, g, d, fs, v, rfl, T, no, ea, ed, l, q⟩ := hh
  cases (ry : u = .ref a)
  obtain ⟨t1, ha⟩ := exo_at I1.hok ea
  obtain ⟨mA, hns, rel⟩ := exd_at I1.hok ed
  obtain ⟨od, ho, hl⟩ := lookIn_ns hns
  obtain ⟨z, hz, rz⟩ := RelO.some_of (v := v) (o := mA nm) (by rw [← l]; exact rel nm)
  have J : PySem.W.InstAt s1.heap a _ C (some od) := ⟨ha, rfl, rfl, ho⟩
  exact HandSPX.exc_get I1.kIn J T.ga T.gg T.oex.exC (PySem.W.findObj_own T.dct no rfl (by rw [hl, hz])) (handed_of rz) ⟨v, H1, I1.tok _, rz, q⟩
/-- isinstance(e, c), isinstance(e, (c, ..)) of such an exception -/
def rIsX (K : PySem.W.Frag) : List V → Hp → VK → Prop := fun xs H Q => ∃ (a C g : Addr) (d : Option Addr) (c : V) (cv : Value) (k : Bool), xs = [.ref a, c] ∧ ExK K C g ∧ ClsK K ∧ H a = some (exo a C d) ∧ (∀ dd, d = some dd → ∃ fs, H dd = some (exd dd fs)) ∧ ClsV c cv ∧ PySem.W.kitOne K (.ref C) cv = some k ∧ Q (.bl k) H
theorem inst_at {pins : List (Addr × Obj)} {σ : L2.St} {H : Hp} {s : Shared} {a C : Addr} {d : Option Addr} (I : Inv X pins σ H s) (ea : H a = some (exo a C d)) (ed : ∀ dd, d = some dd → ∃ fs, H dd = some (exd dd fs)) :
    ∃ ox od, PySem.W.InstAt s.heap a ox C od := by
  obtain ⟨t1, ha⟩ := exo_at I.hok ea
  cases d with
  | none => exact ⟨_, none, ha, rfl, rfl, trivial⟩
  | some dd =>
    obtain ⟨fs, hd⟩ := ed dd rfl
    obtain ⟨mA, hns, rel⟩ := exd_at I.hok hd
    obtain ⟨od, ho, hl⟩ := lookIn_ns hns
    exact ⟨_, some od, ha, rfl, rfl, ho⟩
theorem call_isX : CallR X (.builtin "isinstance") (rIsX X.K) := by
  intro pins s σ H xs us Q I r h
  obtain ⟨a, C, g, d, c, cv, kk, rfl, T, Z, ea, ed, hc, e, q⟩ := h
  cases r with
  | cons ra rr =>
    cases rr with
    | cons rc rr =>
      cases rr
      cases ra
      obtain rfl := hc.eq rc
      obtain ⟨ox, od, J⟩ := inst_at I ea ed
      exact PySem.W.kia_one (PySem.W.kitx_exc T.is T.ga T.gg T.oex.exC T.cls Z.get Z.takes T.ob) I.kIn J e (fun z => nomatch z) fun tk => ⟨.bl kk, H, I.kept (t' := tk) fun _ _ z => z, rfl, q⟩
def rIsXT (K : PySem.W.Frag) : List V → Hp → VK → Prop := fun xs H Q => ∃ (a C g tp : Addr) (d : Option Addr) (cs : List V) (cvs : List Value) (k : Bool), xs = [.ref a, .ref tp] ∧ ExK K C g ∧ ClsK K ∧ H a = some (exo a C d) ∧ (∀ dd, d = some dd → ∃ fs, H dd = some (exd dd fs)) ∧
  H tp = some (.tup cs) ∧ Paired ClsV cs cvs ∧ PySem.W.kitAny K (.ref C) cvs = some k ∧ Q (.bl k) H
theorem call_isXT : CallR X (.builtin "isinstance") (rIsXT X.K) := by
  intro pins s σ H xs us Q I r h
  obtain ⟨a, C, g, tp, d, cs, cvs, kk, rfl, T, Z, ea, ed, et, hc, e, q⟩ := h
  cases r with
  | cons ra rr =>
    cases rr with
    | cons rc rr =>
      cases rr
      cases ra
      cases rc
      obtain ⟨_, its, rv, o, ho, oc, n, od0⟩ := (show ObjOk X.prog X.w H s.heap tp (.tup cs) from I.hok tp _ et)
      obtain rfl := ClsV.all hc rv
      obtain ⟨cc, dd, dat, sl⟩ := o
      cases (oc : cc = _)
      cases (od0 : dat = _)
      obtain ⟨ox, odd, J⟩ := inst_at I ea ed
      exact PySem.W.kia_tup (PySem.W.kitx_exc T.is T.ga T.gg T.oex.exC T.cls Z.get Z.takes T.ob) I.kIn J ho e (fun z => nomatch z) fun tk => ⟨.bl kk, H, I.kept (t' := tk) fun _ _ z => z, rfl, q⟩
end
end Lx
namespace Lx
open PySem PySem.Spec PyProof.Rows L2
/-! ### repr of a list of such data, dicts among them -/
section
variable {X : Cx} {pins : List (Addr × Obj)} {σ : L2.St} {H : Hp} {s : Shared}
theorem show_all (I : Inv X pins σ H s) : ∀ {xs : List V} {us : List Value} {ds : List PyData}, Vals xs us → Paired (ShowAt X.K H) xs ds → PyData.showableAll ds = true → (∀ t ∈ PyData.shownAll ds, t.length ≤ sizeLine) →
    ∃ as bs, ReadsAll s.heap us ds as ∧ ReadAtMost s.heap (PyData.depthAll ds) bs ∧ ReprAllK X.prog X.w bs s.heap (PyData.depthAll ds) us (PyData.shownAll ds)
  | _, _, _, .nil, .nil, _, _ => ⟨[], [], .nil, (fun _ h => nomatch h), by simp only [PyData.shownAll]; exact .nil⟩
  | _, _, _, .cons r rs, .cons (b := d) (l₂ := ds) f fs, sh, sz => by
    have sh' : d.showable = true ∧ PyData.showableAll ds = true := by simpa [PyData.showableAll] using sh
    obtain ⟨as, rd, hsm⟩ := f.reads I r
    have z1 : d.shown.length ≤ sizeLine := sz _ (by simp only [PyData.shownAll]; exact List.mem_cons_self ..)
    obtain ⟨bs, rb, rk⟩ := ReprK.of_reads (prog := X.prog) (w := X.w) rd sh'.1 hsm z1
    obtain ⟨as2, bs2, rd2, rb2, rk2⟩ := show_all I rs fs sh'.2 fun t ht => sz t (by simp only [PyData.shownAll]; exact List.mem_cons_of_mem _ ht)
    have m1 : d.depth ≤ PyData.depthAll (d :: ds) := by
      simp only [PyData.depthAll]
      omega
    have m2 : PyData.depthAll ds ≤ PyData.depthAll (d :: ds) := by
      simp only [PyData.depthAll]
      omega
    refine ⟨as ++ as2, bs ++ bs2, .cons rd rd2, fun b hb => ?_, ?_⟩
    · rcases List.mem_append.mp hb with h | h
      · obtain ⟨d', q, e, le⟩ := rb b h
        exact ⟨d', q, e, Nat.le_trans le m1⟩
      · obtain ⟨d', q, e, le⟩ := rb2 b h
        exact ⟨d', q, e, Nat.le_trans le m2⟩
    · simp only [PyData.shownAll]
      exact .cons ((rk.more fun b hb => List.mem_append_left _ hb).level_le m1) (rk2.more_le (fun b hb => List.mem_append_right _ hb) m2)
/-- repr(a list of such data) -/
theorem call_reprL (calm : Calm X.A) (hu : X.A.units + 64 < cLine) : CallR X (.builtin "repr") (fun xs H Q => ∃ (a : Addr) (ys : List V) (ds : List PyData), xs = [.ref a] ∧ SqL X.K H a ys ∧ Paired (ShowAt X.K H) ys ds ∧ PyData.showableAll ds = true ∧ PyData.depthAll ds ≤ 50 ∧
    (PyData.shown (.list ds)).length ≤ sizeLine ∧ Q (.str (PyData.shown (.list ds))) H) := by
  intro pins s σ H xs us Q I r h
  obtain ⟨a, ys, ds, rfl, sq, f, sh, dp, sz, q⟩ := h
  cases r with
  | cons ra rr =>
    cases rr
    cases ra
    obtain ⟨its, rv, ⟨o, n, h1, h2, _, h3⟩, _⟩ := I.list sq
    have sz' : (listText (PyData.shownAll ds)).length ≤ sizeLine := by simpa only [PyData.shown] using sz
    obtain ⟨as, bs, ra, rb, rk⟩ := show_all I rv f sh fun t ht => Nat.le_trans (listText_mem_le ht) sz'
    have rd : Reads s.heap (.ref a) (.list ds) (a :: as) := .list h1 h2 h3 ra
    have apart : a ∉ bs := not_mem_of_deeper rd (by simp only [PyData.depth]; omega) rb
    have done : ∀ (h' : Heap) (t : Tok) (tk : Nat), (∀ b o, s.heap.get? b = some o → h'.get? b = some o) → EP X pins σ Q (.str (PyData.shown (.list ds)) t) { s with heap := h', toks := tk } := fun h' t tk k => ⟨.str _, H, I.kept (t' := tk) k, ⟨_, rfl⟩, q⟩
    have ty : s.TypeIs (.ref a) "list" := ⟨o, h1, h2⟩
    refine call_repr_slot (by omega) ty F.slot_list_repr.toG ?_
    simp only [PyData.shown] at done
    cases its with
    | nil =>
      cases ra
      simp only [PyData.shownAll, listText_nil] at done
      exact call_list_repr_empty ty h1 h3 ⟨_, _, rfl, done s.heap _ _ fun _ _ e => e⟩
    | cons x l =>
      refine call_list_reprK h1 h2 h3 apart (by simpa using rk.length_eq) (fun i y e => rk.item i y (by simpa using e)) (show (X.A.in1).guards = some [] from calm) (fun b _ => Clear.nil b) ?_ (fun _ _ e => e) (fun h' u tk k => ⟨_, _, rfl, done h' u tk k⟩) sz'
      show X.A.units + 1 + (PyData.depthAll ds + 1) < cLine
      omega
end
end Lx
namespace Toy
open PySem L2 Lx
def top (i : Nat) : Stmt := PySem.Challenge.pw_orplaces_k01_errors_and_their_parts.main.body.getD i (.Pass ⟨0, 0, 0, 0⟩)
abbrev s__law_pen : Stmt := top 36
abbrev N__law_pen : List Str := ["_law_script"]
theorem sc__law_pen : FnScope N__law_pen ["_law_script"] (defScope s__law_pen) := ⟨rfl, rfl, rfl, by decide +kernel, rfl, by decide +kernel, by decide +kernel⟩
abbrev s__law_draw : Stmt := top 37
abbrev N__law_draw : List Str := ["_law_pen_here", "_law_many", "_law_digit", "_law_at", "_law_cell", "_law_great", "_law_mixed"]
theorem sc__law_draw : FnScope N__law_draw ["_law_pen_here", "_law_many"] (defScope s__law_draw) := ⟨rfl, rfl, rfl, by decide +kernel, rfl, by decide +kernel, by decide +kernel⟩
abbrev s__law_pick : Stmt := top 38
abbrev N__law_pick : List Str := ["_law_pen_here", "_law_some"]
theorem sc__law_pick : FnScope N__law_pick ["_law_pen_here", "_law_some"] (defScope s__law_pick) := ⟨rfl, rfl, rfl, by decide +kernel, rfl, by decide +kernel, by decide +kernel⟩
abbrev s__law_thing : Stmt := top 39
abbrev N__law_thing : List Str := ["_law_pen_here", "_law_number", "_law_menu"]
theorem sc__law_thing : FnScope N__law_thing ["_law_pen_here"] (defScope s__law_thing) := ⟨rfl, rfl, rfl, by decide +kernel, rfl, by decide +kernel, by decide +kernel⟩
abbrev s__law_kinds : Stmt := top 40
abbrev N__law_kinds : List Str := ["_law_error", "_law_found", "_law_at", "_law_is_one"]
theorem sc__law_kinds : FnScope N__law_kinds ["_law_error"] (defScope s__law_kinds) := ⟨rfl, rfl, rfl, by decide +kernel, rfl, by decide +kernel, by decide +kernel⟩
abbrev s__law_is_based : Stmt := top 41
abbrev N__law_is_based : List Str := ["_law_error", "_law_others"]
theorem sc__law_is_based : FnScope N__law_is_based ["_law_error"] (defScope s__law_is_based) := ⟨rfl, rfl, rfl, by decide +kernel, rfl, by decide +kernel, by decide +kernel⟩
abbrev s__law_values : Stmt := top 42
abbrev N__law_values : List Str := ["_law_left", "_law_found"]
theorem sc__law_values : FnScope N__law_values ["_law_left"] (defScope s__law_values) := ⟨rfl, rfl, rfl, by decide +kernel, rfl, by decide +kernel, by decide +kernel⟩
abbrev s__law_places : Stmt := top 43
abbrev N__law_places : List Str := ["_law_left", "_law_found"]
theorem sc__law_places : FnScope N__law_places ["_law_left"] (defScope s__law_places) := ⟨rfl, rfl, rfl, by decide +kernel, rfl, by decide +kernel, by decide +kernel⟩
abbrev s__law_several_right : Stmt := top 44
abbrev N__law_several_right : List Str := ["_law_left", "_law_middle", "_law_right", "_law_text", "_law_clash", "_law_fields", "_law_found", "_law_errors", "_law_error", "_law_at"]
theorem sc__law_several_right : FnScope N__law_several_right ["_law_left", "_law_middle", "_law_right"] (defScope s__law_several_right) := ⟨rfl, rfl, rfl, by decide +kernel, rfl, by decide +kernel, by decide +kernel⟩
abbrev s_law : Stmt := top 45
abbrev N_law : List Str := ["_law_script", "_law_pen_here", "_law_turn", "_law_left", "_law_middle", "_law_right", "_law_found", "_law_at", "_law_entry", "_law_error", "_law_kept", "_law_held", "_law_pair"]
theorem sc_law : FnScope N_law ["_law_script"] (defScope s_law) := ⟨rfl, rfl, rfl, by decide +kernel, rfl, by decide +kernel, by decide +kernel⟩
abbrev s_InvalidName_init : Stmt := inClass (top 2) 0
abbrev N_InvalidName_init : List Str := ["self", "value"]
theorem sc_InvalidName_init : FnScope N_InvalidName_init ["self", "value"] (defScope s_InvalidName_init) := ⟨rfl, rfl, rfl, by decide +kernel, rfl, by decide +kernel, by decide +kernel⟩
abbrev s_InvalidNumber_init : Stmt := inClass (top 3) 0
abbrev N_InvalidNumber_init : List Str := ["self", "value"]
theorem sc_InvalidNumber_init : FnScope N_InvalidNumber_init ["self", "value"] (defScope s_InvalidNumber_init) := ⟨rfl, rfl, rfl, by decide +kernel, rfl, by decide +kernel, by decide +kernel⟩
abbrev s_InvalidRow_init : Stmt := inClass (top 5) 0
abbrev N_InvalidRow_init : List Str := ["self", "value"]
theorem sc_InvalidRow_init : FnScope N_InvalidRow_init ["self", "value"] (defScope s_InvalidRow_init) := ⟨rfl, rfl, rfl, by decide +kernel, rfl, by decide +kernel, by decide +kernel⟩
abbrev s_NoTarget_init : Stmt := inClass (top 21) 0
abbrev N_NoTarget_init : List Str := ["self", "value"]
theorem sc_NoTarget_init : FnScope N_NoTarget_init ["self", "value"] (defScope s_NoTarget_init) := ⟨rfl, rfl, rfl, by decide +kernel, rfl, by decide +kernel, by decide +kernel⟩
abbrev s_NoClass_init : Stmt := inClass (top 22) 0
abbrev N_NoClass_init : List Str := ["self", "value"]
theorem sc_NoClass_init : FnScope N_NoClass_init ["self", "value"] (defScope s_NoClass_init) := ⟨rfl, rfl, rfl, by decide +kernel, rfl, by decide +kernel, by decide +kernel⟩
abbrev s_NoLanding_init : Stmt := inClass (top 23) 0
abbrev N_NoLanding_init : List Str := ["self", "value"]
theorem sc_NoLanding_init : FnScope N_NoLanding_init ["self", "value"] (defScope s_NoLanding_init) := ⟨rfl, rfl, rfl, by decide +kernel, rfl, by decide +kernel, by decide +kernel⟩
abbrev s_InvalidRows_init : Stmt := inClass (top 4) 0
abbrev N_InvalidRows_init : List Str := ["self", "part"]
theorem sc_InvalidRows_init : FnScope N_InvalidRows_init ["self", "part"] (defScope s_InvalidRows_init) := ⟨rfl, rfl, rfl, by decide +kernel, rfl, by decide +kernel, by decide +kernel⟩
abbrev s_InvalidKind_init : Stmt := inClass (top 6) 0
abbrev N_InvalidKind_init : List Str := ["self", "part"]
theorem sc_InvalidKind_init : FnScope N_InvalidKind_init ["self", "part"] (defScope s_InvalidKind_init) := ⟨rfl, rfl, rfl, by decide +kernel, rfl, by decide +kernel, by decide +kernel⟩
abbrev s_InvalidFrame_init : Stmt := inClass (top 7) 0
abbrev N_InvalidFrame_init : List Str := ["self", "part"]
theorem sc_InvalidFrame_init : FnScope N_InvalidFrame_init ["self", "part"] (defScope s_InvalidFrame_init) := ⟨rfl, rfl, rfl, by decide +kernel, rfl, by decide +kernel, by decide +kernel⟩
abbrev s_InvalidWord_init : Stmt := inClass (top 8) 0
abbrev N_InvalidWord_init : List Str := ["self", "part"]
theorem sc_InvalidWord_init : FnScope N_InvalidWord_init ["self", "part"] (defScope s_InvalidWord_init) := ⟨rfl, rfl, rfl, by decide +kernel, rfl, by decide +kernel, by decide +kernel⟩
abbrev s_NotReady_init : Stmt := inClass (top 29) 0
abbrev N_NotReady_init : List Str := ["self", "part"]
theorem sc_NotReady_init : FnScope N_NotReady_init ["self", "part"] (defScope s_NotReady_init) := ⟨rfl, rfl, rfl, by decide +kernel, rfl, by decide +kernel, by decide +kernel⟩
abbrev s_TooMany_init : Stmt := inClass (top 33) 0
abbrev N_TooMany_init : List Str := ["self", "part"]
theorem sc_TooMany_init : FnScope N_TooMany_init ["self", "part"] (defScope s_TooMany_init) := ⟨rfl, rfl, rfl, by decide +kernel, rfl, by decide +kernel, by decide +kernel⟩
abbrev s_InvalidAddress_init : Stmt := inClass (top 9) 0
abbrev N_InvalidAddress_init : List Str := ["self", "address"]
theorem sc_InvalidAddress_init : FnScope N_InvalidAddress_init ["self", "address"] (defScope s_InvalidAddress_init) := ⟨rfl, rfl, rfl, by decide +kernel, rfl, by decide +kernel, by decide +kernel⟩
abbrev s_Locked_init : Stmt := inClass (top 14) 0
abbrev N_Locked_init : List Str := ["self", "address"]
theorem sc_Locked_init : FnScope N_Locked_init ["self", "address"] (defScope s_Locked_init) := ⟨rfl, rfl, rfl, by decide +kernel, rfl, by decide +kernel, by decide +kernel⟩
abbrev s_Blank_init : Stmt := inClass (top 15) 0
abbrev N_Blank_init : List Str := ["self", "address"]
theorem sc_Blank_init : FnScope N_Blank_init ["self", "address"] (defScope s_Blank_init) := ⟨rfl, rfl, rfl, by decide +kernel, rfl, by decide +kernel, by decide +kernel⟩
abbrev s_StateClash_init : Stmt := inClass (top 13) 0
abbrev N_StateClash_init : List Str := ["self", "name"]
theorem sc_StateClash_init : FnScope N_StateClash_init ["self", "name"] (defScope s_StateClash_init) := ⟨rfl, rfl, rfl, by decide +kernel, rfl, by decide +kernel, by decide +kernel⟩
abbrev s_NoCondition_init : Stmt := inClass (top 17) 0
abbrev N_NoCondition_init : List Str := ["self", "name"]
theorem sc_NoCondition_init : FnScope N_NoCondition_init ["self", "name"] (defScope s_NoCondition_init) := ⟨rfl, rfl, rfl, by decide +kernel, rfl, by decide +kernel, by decide +kernel⟩
abbrev s_NoField_init : Stmt := inClass (top 18) 0
abbrev N_NoField_init : List Str := ["self", "name"]
theorem sc_NoField_init : FnScope N_NoField_init ["self", "name"] (defScope s_NoField_init) := ⟨rfl, rfl, rfl, by decide +kernel, rfl, by decide +kernel, by decide +kernel⟩
abbrev s_NoKind_init : Stmt := inClass (top 19) 0
abbrev N_NoKind_init : List Str := ["self", "name"]
theorem sc_NoKind_init : FnScope N_NoKind_init ["self", "name"] (defScope s_NoKind_init) := ⟨rfl, rfl, rfl, by decide +kernel, rfl, by decide +kernel, by decide +kernel⟩
abbrev s_NoState_init : Stmt := inClass (top 20) 0
abbrev N_NoState_init : List Str := ["self", "name"]
theorem sc_NoState_init : FnScope N_NoState_init ["self", "name"] (defScope s_NoState_init) := ⟨rfl, rfl, rfl, by decide +kernel, rfl, by decide +kernel, by decide +kernel⟩
abbrev s_Taken_init : Stmt := inClass (top 31) 0
abbrev N_Taken_init : List Str := ["self", "name"]
theorem sc_Taken_init : FnScope N_Taken_init ["self", "name"] (defScope s_Taken_init) := ⟨rfl, rfl, rfl, by decide +kernel, rfl, by decide +kernel, by decide +kernel⟩
abbrev s_NotPossible_init : Stmt := inClass (top 16) 0
abbrev N_NotPossible_init : List Str := ["self", "row"]
theorem sc_NotPossible_init : FnScope N_NotPossible_init ["self", "row"] (defScope s_NotPossible_init) := ⟨rfl, rfl, rfl, by decide +kernel, rfl, by decide +kernel, by decide +kernel⟩
abbrev s_NoCase_init : Stmt := inClass (top 24) 0
abbrev N_NoCase_init : List Str := ["self", "case"]
theorem sc_NoCase_init : FnScope N_NoCase_init ["self", "case"] (defScope s_NoCase_init) := ⟨rfl, rfl, rfl, by decide +kernel, rfl, by decide +kernel, by decide +kernel⟩
abbrev s_WrongCount_init : Stmt := inClass (top 32) 0
abbrev N_WrongCount_init : List Str := ["self", "wanted"]
theorem sc_WrongCount_init : FnScope N_WrongCount_init ["self", "wanted"] (defScope s_WrongCount_init) := ⟨rfl, rfl, rfl, by decide +kernel, rfl, by decide +kernel, by decide +kernel⟩
abbrev s_TooLarge_init : Stmt := inClass (top 34) 0
abbrev N_TooLarge_init : List Str := ["self", "limit"]
theorem sc_TooLarge_init : FnScope N_TooLarge_init ["self", "limit"] (defScope s_TooLarge_init) := ⟨rfl, rfl, rfl, by decide +kernel, rfl, by decide +kernel, by decide +kernel⟩
abbrev s_InvalidText_init : Stmt := inClass (top 10) 0
abbrev N_InvalidText_init : List Str := ["self", "line", "word"]
theorem sc_InvalidText_init : FnScope N_InvalidText_init ["self", "line", "word"] (defScope s_InvalidText_init) := ⟨rfl, rfl, rfl, by decide +kernel, rfl, by decide +kernel, by decide +kernel⟩
abbrev s_FieldClash_init : Stmt := inClass (top 11) 0
abbrev N_FieldClash_init : List Str := ["self", "field", "one", "other"]
theorem sc_FieldClash_init : FnScope N_FieldClash_init ["self", "field", "one", "other"] (defScope s_FieldClash_init) := ⟨rfl, rfl, rfl, by decide +kernel, rfl, by decide +kernel, by decide +kernel⟩
abbrev s_Clash_init : Stmt := inClass (top 12) 0
abbrev N_Clash_init : List Str := ["self", "lesser", "name"]
theorem sc_Clash_init : FnScope N_Clash_init ["self", "lesser", "name"] (defScope s_Clash_init) := ⟨rfl, rfl, rfl, by decide +kernel, rfl, by decide +kernel, by decide +kernel⟩
abbrev s_NoStates_init : Stmt := inClass (top 25) 0
abbrev N_NoStates_init : List Str := ["self"]
theorem sc_NoStates_init : FnScope N_NoStates_init ["self"] (defScope s_NoStates_init) := ⟨rfl, rfl, rfl, by decide +kernel, rfl, by decide +kernel, by decide +kernel⟩
abbrev s_NoEntries_init : Stmt := inClass (top 26) 0
abbrev N_NoEntries_init : List Str := ["self"]
theorem sc_NoEntries_init : FnScope N_NoEntries_init ["self"] (defScope s_NoEntries_init) := ⟨rfl, rfl, rfl, by decide +kernel, rfl, by decide +kernel, by decide +kernel⟩
abbrev s_NotEnd_init : Stmt := inClass (top 27) 0
abbrev N_NotEnd_init : List Str := ["self"]
theorem sc_NotEnd_init : FnScope N_NotEnd_init ["self"] (defScope s_NotEnd_init) := ⟨rfl, rfl, rfl, by decide +kernel, rfl, by decide +kernel, by decide +kernel⟩
abbrev s_NotCarried_init : Stmt := inClass (top 28) 0
abbrev N_NotCarried_init : List Str := ["self"]
theorem sc_NotCarried_init : FnScope N_NotCarried_init ["self"] (defScope s_NotCarried_init) := ⟨rfl, rfl, rfl, by decide +kernel, rfl, by decide +kernel, by decide +kernel⟩
abbrev s_Unlike_init : Stmt := inClass (top 30) 0
abbrev N_Unlike_init : List Str := ["self"]
theorem sc_Unlike_init : FnScope N_Unlike_init ["self"] (defScope s_Unlike_init) := ⟨rfl, rfl, rfl, by decide +kernel, rfl, by decide +kernel, by decide +kernel⟩
/-! ### the pen, a draw, a pick -/
/-- the pen at p: its cells at c, its place i, its rest g -/
def Pen (H : Hp) (p : Addr) (n : Nat) : Prop := ∃ (c : Addr) (ns : List Int) (i : Nat) (g : Int), H p = some (.lst [.ref c, .int (i : Int), .int g]) ∧ H c = some (.lst (ns.map V.int)) ∧ ns.length ≤ 60 ∧ i ≤ n
/-- all but the pen is as it was -/
def Keep (p : Addr) (H H' : Hp) : Prop := ∀ b o, H b = some o → b ≠ p → H' b = some o
theorem Keep.refl (p : Addr) (H : Hp) : Keep p H H := fun _ _ h _ => h
theorem Keep.trans {p : Addr} {H H1 H2 : Hp} (a : Keep p H H1) (b : Keep p H1 H2) : Keep p H H2 := fun c o h n => b c o (a c o h n) n
theorem same_keep {p : Addr} {H H' : Hp} (s : Same H H') : Keep p H H' := fun b o h _ => s b o h
theorem same_upd {H : Hp} {p : Addr} {o : HO} (h : H p = none) : Same H (upd H p o) := fun b x e => by
  rw [upd_ne (ne_of_none e h)]
  exact e
theorem keep_upd {H : Hp} {p : Addr} {o : HO} : Keep p H (upd H p o) := fun b x e n => by
  rw [upd_ne n]
  exact e
theorem cells_ne {H : Hp} {p c : Addr} {ns : List Int} {r : List V} (hc : H c = some (.lst (ns.map V.int))) (hp : H p = some (.lst (.ref c :: r))) : c ≠ p := by
  intro e
  subst e
  rw [hc] at hp
  cases ns with
  | nil => cases hp
  | cons x l => cases hp
theorem Pen.same {H H' : Hp} {p : Addr} {n : Nat} (P : Pen H p n) (s : Same H H') : Pen H' p n := by
  obtain ⟨c, ns, i, g, hp, hc, hl, hi⟩ := P
  exact ⟨c, ns, i, g, s _ _ hp, s _ _ hc, hl, hi⟩
theorem Pen.mono {H : Hp} {p : Addr} {n m : Nat} (P : Pen H p n) (h : n ≤ m) : Pen H p m := by
  obtain ⟨c, ns, i, g, hp, hc, hl, hi⟩ := P
  exact ⟨c, ns, i, g, hp, hc, hl, Nat.le_trans hi h⟩
theorem Pen.put {H : Hp} {p c : Addr} {ns : List Int} {i : Nat} {g : Int} {n : Nat} {r : List V} (hp : H p = some (.lst (.ref c :: r))) (hc : H c = some (.lst (ns.map V.int))) (hl : ns.length ≤ 60) (hi : i ≤ n) : Pen (upd H p (.lst [.ref c, .int (i : Int), .int g])) p n :=
  ⟨c, ns, i, g, upd_same, by rw [upd_ne (cells_ne hc hp)]; exact hc, hl, hi⟩
theorem Pen.ob {H : Hp} {p : Addr} {n : Nat} (P : Pen H p n) : ∃ xs, H p = some (.lst xs) := by
  obtain ⟨c, ns, i, g, hp, _⟩ := P
  exact ⟨_, hp⟩
def spPen (K : PySem.W.Frag) : Sp := fun vs H Q _ => ∃ (a : Addr) (ns : List Int), vs = [.ref a] ∧ SqL K H a (ns.map V.int) ∧ ns.length ≤ 63 ∧ ∀ (p : Addr) (H' : Hp), H p = none → Same H H' → Pen H' p 0 → Q (.ref p) H'
def spDraw : Sp := fun vs H Q _ => ∃ (p : Addr) (m : Int) (n : Nat), vs = [.ref p, .int m] ∧ Pen H p n ∧ n ≤ 100000 ∧ 1 ≤ m ∧ m < 1073741824 ∧ ∀ (r : Int) (H' : Hp), 0 ≤ r → r < m → Pen H' p (n + 1) → Keep p H H' → Q (.int r) H'
def spPick (K : PySem.W.Frag) : Sp := fun vs H Q _ => ∃ (p a : Addr) (xs : List V) (n : Nat), vs = [.ref p, .ref a] ∧ a ≠ p ∧ Pen H p n ∧ n ≤ 100000 ∧ SqL K H a xs ∧ 1 ≤ xs.length ∧ xs.length ≤ 1000 ∧ ∀ (v : V) (H' : Hp), v ∈ xs → Pen H' p (n + 1) → Keep p H H' → Q v H'
theorem SqL.keep {K : PySem.W.Frag} {H H' : Hp} {a p : Addr} {xs : List V} (s : Keep p H H') (ne : a ≠ p) (h : SqL K H a xs) : SqL K H' a xs := by
  rcases h with (h | ⟨o, h⟩) | h
  · exact .inl (.inl (s _ _ h ne))
  · exact .inl (.inr ⟨o, s _ _ h ne⟩)
  · exact .inr h
theorem modN {i m : Int} (h : 1 ≤ m) : 0 ≤ i.fmod m ∧ i.fmod m < m := by
  rw [Int.fmod_eq_emod_of_nonneg _ (by omega)]
  exact ⟨Int.emod_nonneg _ (by omega), Int.emod_lt_of_pos _ (by omega)⟩
theorem map_int_at {ns : List Int} {j : Nat} (h : j < ns.length) : ∃ z, (ns.map V.int)[j]? = some (.int z) := by
  refine ⟨ns[j], ?_⟩
  rw [List.getElem?_map, List.getElem?_eq_getElem h]
  rfl
theorem dp_ints {K : PySem.W.Frag} {H : Hp} : ∀ ns : List Int, DpAll K H (ns.map V.int) (ns.map PyData.int)
  | [] => .nil
  | n :: r => .cons (.int n) (dp_ints r)
theorem canLay_ints : ∀ ns : List Int, PyData.canLayAll0 (ns.map PyData.int) = true
  | [] => by simp [PyData.canLayAll0]
  | n :: r => by
    have := canLay_ints r
    simp [PyData.canLayAll0, PyData.canLay0, this]
theorem depth_ints : ∀ ns : List Int, PyData.depthAll (ns.map PyData.int) ≤ 1
  | [] => by simp [PyData.depthAll]
  | n :: r => by
    have := depth_ints r
    simp only [List.map_cons, PyData.depthAll, PyData.depth]
    omega
theorem shaped_ints (ns : List Int) : SeqAt.shaped (.list (ns.map PyData.int)) = true := by
  have h1 := canLay_ints ns
  have h2 := depth_ints ns
  unfold SeqAt.shaped
  have h3 : PyData.depth (.list (ns.map PyData.int)) ≤ 64 := by
    simp only [PyData.depth]
    omega
  simp only [PyData.canLay0, h1, h3, decide_true, Bool.and_self]
theorem eqv_ints_nil (ns : List Int) : PyData.eqv (.list (ns.map PyData.int)) (.list []) = ns.isEmpty := by
  cases ns with
  | nil => simp [PyData.eqv, PyData.eqvAll]
  | cons x r => simp [PyData.eqv, PyData.eqvAll]
theorem cut60 (ns : List Int) : ∃ ms : List Int, cutV (ns.map V.int) none (some 60) = ms.map V.int ∧ ms.length ≤ 60 := by
  refine ⟨ns.take 60, ?_, by rw [List.length_take]; omega⟩
  unfold cutV
  rw [HT.sIx_none, show HT.sIx (ns.map V.int).length (ns.map V.int).length (some 60) = min 60 (ns.map V.int).length from HT.sIx_nat _ _ 60, List.drop_zero, Nat.sub_zero, List.map_take]
  by_cases h : 60 ≤ (ns.map V.int).length
  · rw [Nat.min_eq_left h]
  · rw [Nat.min_eq_right (by omega), List.take_of_length_le (Nat.le_refl _), List.take_of_length_le (by omega)]
theorem abs_nat (x : Int) : 0 ≤ (if x < 0 then -x else x) := by
  split <;> omega
theorem bnd1 {a i b c : Int} (h0 : 0 ≤ a) (h1 : a < 2147483648) (h2 : 0 ≤ i) (h3 : i ≤ 100000) (hb0 : 0 ≤ b) (hb : b ≤ 1000000) (hc0 : 0 ≤ c) (hc : c ≤ 1000000) : (a + b * i + c).natAbs < 2 ^ 64 := by
  have e1 : 0 ≤ b * i := Int.mul_nonneg hb0 h2
  have e2 : b * i ≤ 1000000 * 100000 := Int.mul_le_mul hb h3 h2 (by omega)
  omega
theorem bnd2 {a i b c d : Int} (h0 : 0 ≤ a) (h1 : a < 2147483648) (h2 : 0 ≤ i) (h3 : i ≤ 100000) (hb0 : 0 ≤ b) (hb : b ≤ 1000000) (hc0 : 0 ≤ c) (hc : c ≤ 1000000) (hd0 : 0 ≤ d) (hd : d ≤ 1000000) :
    (a * (2 * i + d) + b * i * i + c).natAbs < 2 ^ 64 := by
  have e1 : 0 ≤ b * i := Int.mul_nonneg hb0 h2
  have e2 : b * i ≤ 1000000 * 100000 := Int.mul_le_mul hb h3 h2 (by omega)
  have e3 : 0 ≤ b * i * i := Int.mul_nonneg e1 h2
  have e4 : b * i * i ≤ 1000000 * 100000 * 100000 := Int.mul_le_mul e2 h3 h2 (by omega)
  have e5 : 0 ≤ a * (2 * i + d) := Int.mul_nonneg h0 (by omega)
  have e6 : a * (2 * i + d) ≤ 2147483648 * 1200000 := Int.mul_le_mul (by omega) (by omega) (by omega) (by omega)
  omega
/-- a text of at most n signs -/
structure Tx (n : Nat) (z : Str) : Prop where
  len : z.length ≤ n
  ok : ∀ c ∈ z.cps.toList, c < 1114112
theorem app_list (x y : Str) : (x ++ y).cps.toList = x.cps.toList ++ y.cps.toList := by
  show (x.cps ++ y.cps).toList = _
  simp
theorem str_len (z : Str) : z.cps.toList.length = z.length := by
  rw [Array.length_toList]
  rfl
theorem app_len (x y : Str) : (x ++ y).length = x.length + y.length := by
  rw [← str_len, ← str_len, ← str_len, app_list, List.length_append]
theorem Tx.app {n m : Nat} {x y : Str} (a : Tx n x) (b : Tx m y) : Tx (n + m) (x ++ y) := by
  refine ⟨?_, fun c h => ?_⟩
  · have := app_len x y
    have := a.len
    have := b.len
    omega
  · rw [app_list] at h
    rcases List.mem_append.mp h with h | h
    · exact a.ok c h
    · exact b.ok c h
theorem Tx.mono {n m : Nat} {x : Str} (a : Tx n x) (h : n ≤ m) : Tx m x := ⟨Nat.le_trans a.len h, a.ok⟩
theorem Tx.cut {n : Nat} {x : Str} (a : Tx n x) (lo hi : Option Int) : Tx n (cutS x lo hi) := by
  have e : (cutS x lo hi).cps.toList = (x.cps.toList.drop (HT.sIx x.length 0 lo)).take (HT.sIx x.length x.length hi - HT.sIx x.length 0 lo) := by
    unfold cutS
    simp
  refine ⟨?_, fun c h => ?_⟩
  · rw [← str_len, e, List.length_take, List.length_drop, str_len]
    have := a.len
    omega
  · rw [e] at h
    exact a.ok c (List.mem_of_mem_drop (List.mem_of_mem_take h))
theorem Tx.sign {n : Nat} {z : Str} {c : Nat} (a : Tx n z) (h : c ∈ z.cps.toList) : Tx 1 ⟨#[c]⟩ := by
  refine ⟨Nat.le_refl 1, fun d hd => ?_⟩
  have e : d = c := by simpa using hd
  rw [e]
  exact a.ok c h
theorem Tx.at {n : Nat} {z : Str} (a : Tx n z) {j : Nat} (h : j < z.length) : ∃ c, atI z.cps.toList (j : Int) = some c ∧ Tx 1 ⟨#[c]⟩ := by
  have h' : j < z.cps.toList.length := by rw [str_len]; exact h
  exact ⟨z.cps.toList[j], atI_nat (List.getElem?_eq_getElem h'), a.sign (List.getElem_mem h')⟩
theorem Tx.line {n : Nat} {z : Str} (a : Tx n z) (h : n ≤ 1000000) : z.length ≤ sizeLine := Nat.le_trans a.len (Nat.le_trans h (by decide))
theorem line_of {n : Nat} (h : n ≤ 1000000) : n ≤ sizeLine := Nat.le_trans h (by decide)
theorem Pen.ne {H : Hp} {p a : Addr} {n : Nat} (P : Pen H p n) (h : H a = none) : a ≠ p := by
  obtain ⟨xs, e⟩ := P.ob
  exact (ne_of_none e h).symm
/-! ### exceptions held: what is made, what is asked -/
/-- an exception's own __init__: its fields are the arguments -/
def spIni (C : Addr) (fs : List Str) : Sp := fun xs H Q _ => ∃ (a : Addr) (vs : List V), xs = .ref a :: vs ∧ vs.length = fs.length ∧ H a = some (exo a C none) ∧
  ∀ (d : Addr) (H' : Hp), H d = none → d ≠ a → H' a = some (exo a C (some d)) → H' d = some (exd d (fs.zip vs).reverse) → (∀ b, b ≠ a → b ≠ d → H' b = H b) → Q .non H'
def spIni0 (C : Addr) : Sp := fun xs H Q _ => ∃ a : Addr, xs = [.ref a] ∧ H a = some (exo a C none) ∧ Q .non H
theorem mk_same {a d : Addr} {o : HO} {H H' : Hp} (na : H a = none) (nd : upd H a o d = none) (ne : d ≠ a) (oth : ∀ b, b ≠ a → b ≠ d → H' b = upd H a o b) : Same H H' := fun b u e => by
  have nd' : H d = none := by
    rw [upd_ne ne] at nd
    exact nd
  rw [oth b (ne_of_none e na) (ne_of_none e nd'), upd_ne (ne_of_none e na)]
  exact e
/-- an exception of the i-th class stands at a -/
def ErrAt (K : PySem.W.Frag) (cls : List Addr) (H : Hp) (a : Addr) (i : Nat) : Prop := ∃ (C g : Addr) (d : Option Addr), cls[i]? = some C ∧ ExK K C g ∧ H a = some (exo a C d) ∧ ∀ dd, d = some dd → ∃ fs, H dd = some (exd dd fs)
theorem ErrAt.same {K : PySem.W.Frag} {cls : List Addr} {H H' : Hp} {a : Addr} {i : Nat} (e : ErrAt K cls H a i) (s : Same H H') : ErrAt K cls H' a i := by
  obtain ⟨C, g, d, h1, h2, h3, h4⟩ := e
  exact ⟨C, g, d, h1, h2, s _ _ h3, fun dd q => let ⟨fs, z⟩ := h4 dd q; ⟨fs, s _ _ z⟩⟩
/-- (error, what it kept) -/
def Ent (K : PySem.W.Frag) (cls : List Addr) (H : Hp) (v : V) (t : Addr) (i : Nat) : Prop := ∃ a, H t = some (.tup [.ref a, v]) ∧ ErrAt K cls H a i
theorem Ent.same {K : PySem.W.Frag} {cls : List Addr} {H H' : Hp} {v : V} {t : Addr} {i : Nat} (e : Ent K cls H v t i) (s : Same H H') : Ent K cls H' v t i := by
  obtain ⟨a, h1, h2⟩ := e
  exact ⟨a, s _ _ h1, h2.same s⟩
def Ents (K : PySem.W.Frag) (cls : List Addr) (H : Hp) (v : V) (ts : List Addr) (base : Nat) : Prop := ∀ (j : Nat) (t : Addr), ts[j]? = some t → Ent K cls H v t (base + j)
theorem Ents.same {K : PySem.W.Frag} {cls : List Addr} {H H' : Hp} {v : V} {ts : List Addr} {base : Nat} (e : Ents K cls H v ts base) (s : Same H H') : Ents K cls H' v ts base := fun j t h => (e j t h).same s
theorem Ent.put {K : PySem.W.Frag} {cls : List Addr} {H : Hp} {v : V} {t l : Addr} {i : Nat} {xs ys : List V} (e : Ent K cls H v t i) (h : H l = some (.lst xs)) : Ent K cls (upd H l (.lst ys)) v t i := by
  obtain ⟨a, h1, C, g, d, h2, h3, h4, h5⟩ := e
  have n1 : t ≠ l := ne_of h1 h (by intro z; cases z)
  have n2 : a ≠ l := ne_of h4 h (by intro z; unfold exo at z; cases z)
  refine ⟨a, by rw [upd_ne n1]; exact h1, C, g, d, h2, h3, by rw [upd_ne n2]; exact h4, fun dd q => ?_⟩
  obtain ⟨fs, z⟩ := h5 dd q
  have n3 : dd ≠ l := ne_of z h (by intro z; unfold exd at z; cases z)
  exact ⟨fs, by rw [upd_ne n3]; exact z⟩
theorem vstep {K : PySem.W.Frag} {cls : List Addr} {H Hk H1 : Hp} {v : V} {ts : List Addr} {base k : Nat} {l t : Addr} (nl : H l = none) (e : Hk l = some (.lst (ts.map V.ref))) (n : ts.length = k) (E : Ents K cls Hk v ts base) (S : Same H Hk) (s : Same Hk H1) (en : Ent K cls H1 v t (base + k)) :
    ∃ (ts2 : List Addr) (H2 : Hp), H2 = upd H1 l (.lst (ts.map V.ref ++ [.ref t])) ∧ H2 l = some (.lst (ts2.map V.ref)) ∧ ts2.length = k + 1 ∧ Ents K cls H2 v ts2 base ∧ Same H H2 := by
  refine ⟨ts ++ [t], _, rfl, ?_, by rw [List.length_append, n]; rfl, fun j u h => ?_, fun b o q => ?_⟩
  · rw [upd_same, List.map_append]
    rfl
  · have e1 := s _ _ e
    by_cases hj : j < ts.length
    · rw [List.getElem?_append_left hj] at h
      exact ((E j u h).same s).put e1
    · rw [List.getElem?_append_right (by omega)] at h
      have hj0 : j - ts.length = 0 := by
        cases q : j - ts.length with
        | zero => rfl
        | succ m =>
          rw [q] at h
          cases h
      rw [hj0] at h
      cases (Option.some.inj h)
      have : j = k := by omega
      rw [this]
      exact en.put e1
  · rw [upd_ne (ne_of_none q nl)]
    exact s _ _ (S _ _ q)
/-- (C(v), C(v).f) -/
theorem pair_one {K : PySem.W.Frag} {cls : List Addr} {σ : L2.St} {H : Hp} {Q : VK} {v : V} {C g : Addr} {f : Str} {i : Nat} (hσ : σ[0]? = some (some v)) (T : ExK K C g) (hi : cls[i]? = some C) (no : PySem.W.findIn K (.ref C) f = some none)
    (q : ∀ (t : Addr) (H' : Hp), Same H H' → H t = none → Ent K cls H' v t i → Q (.ref t) H') :
    tTup (tCons (tMkV C (spIni C [f]) (tCons (tVar 0) tNil)) (tCons (tAtt K f (tMkV C (spIni C [f]) (tCons (tVar 0) tNil))) tNil)) σ H Q := by
  refine ⟨v, hσ, by show 1 ≤ 1000; decide, fun a na => ⟨a, [v], rfl, rfl, upd_same, fun d H1 nd ne ha hd oth => ⟨rfl, ?_⟩⟩⟩
  have s1 := mk_same na nd ne oth
  refine ⟨v, hσ, by show 1 ≤ 1000; decide, fun a2 na2 => ⟨a2, [v], rfl, rfl, upd_same, fun d2 H2 nd2 ne2 ha2 hd2 oth2 => ⟨rfl, ?_⟩⟩⟩
  have s2 := mk_same na2 nd2 ne2 oth2
  refine ⟨a2, C, g, d2, _, v, rfl, T, no, ha2, hd2, by simp [List.lookup], ?_⟩
  refine ⟨by show 2 ≤ sizeLine; decide, fun t nt => ?_⟩
  have s3 : Same H2 (upd H2 t (.tup [.ref a, v])) := same_upd nt
  exact q t _ (s1.trans (s2.trans s3)) (s1.free (s2.free nt)) ⟨a, upd_same, C, g, some d, hi, T, s3 _ _ (s2 _ _ ha), fun dd z => by cases z; exact ⟨_, s3 _ _ (s2 _ _ hd)⟩⟩
/-- isinstance(error, the j-th class) -/
theorem is_one {K : PySem.W.Frag} {cls : List Addr} {H Hk : Hp} {a C : Addr} {i j : Nat} {Q : VK} (tab : ∀ (i j : Nat) (c e : Addr), cls[i]? = some c → cls[j]? = some e → PySem.W.kitOne K (.ref c) (.ref e) = some (decide (i = j))) (Z : ClsK K) (e : ErrAt K cls H a i) (s : Same H Hk) (hj : cls[j]? = some C)
    (q : Q (.bl (decide (i = j))) Hk) : rIsX K [.ref a, .ref C] Hk Q := by
  obtain ⟨D, g, d, h1, h2, h3, h4⟩ := e.same s
  exact ⟨a, D, g, d, _, _, _, rfl, h2, Z, h3, h4, .own C, tab i j D C h1 hj, q⟩
theorem is_all {K : PySem.W.Frag} {cls : List Addr} {H Hk : Hp} {a : Addr} {i : Nat} {Q : VK} {c : V} {cv : Value} (cc : ClsV c cv) (all : ∀ C ∈ cls, PySem.W.kitOne K (.ref C) cv = some true) (Z : ClsK K) (e : ErrAt K cls H a i) (s : Same H Hk)
    (q : Q (.bl true) Hk) : rIsX K [.ref a, c] Hk Q := by
  obtain ⟨D, g, d, h1, h2, h3, h4⟩ := e.same s
  exact ⟨a, D, g, d, _, _, _, rfl, h2, Z, h3, h4, cc, all D (List.mem_of_getElem? h1), q⟩
theorem is_tup {K : PySem.W.Frag} {cls : List Addr} {H Hk : Hp} {a tp : Addr} {i : Nat} {Q : VK} {cs : List V} {cvs : List Value} (et : Hk tp = some (.tup cs)) (cc : Paired ClsV cs cvs) (all : ∀ C ∈ cls, PySem.W.kitAny K (.ref C) cvs = some false) (Z : ClsK K) (e : ErrAt K cls H a i) (s : Same H Hk)
    (q : Q (.bl false) Hk) : rIsXT K [.ref a, .ref tp] Hk Q := by
  obtain ⟨D, g, d, h1, h2, h3, h4⟩ := e.same s
  exact ⟨a, D, g, tp, d, cs, cvs, _, rfl, h2, Z, h3, h4, et, cc, all D (List.mem_of_getElem? h1), q⟩
/-- what may be handed in: shown data, wherever the pen has gone -/
structure Sm (k n : Nat) (d : PyData) : Prop where
  sh : d.showable = true
  dp : d.depth ≤ k
  ln : d.shown.length ≤ n
def Th (K : PySem.W.Frag) (p : Addr) (H : Hp) (v : V) (d : PyData) : Prop := Sm 10 200 d ∧ ∀ H', Keep p H H' → ShowAt K H' v d
theorem Th.keep {K : PySem.W.Frag} {p : Addr} {H H' : Hp} {v : V} {d : PyData} (t : Th K p H v d) (k : Keep p H H') : Th K p H' v d := ⟨t.1, fun H2 k2 => t.2 H2 (k.trans k2)⟩
theorem sm_int {i : Int} (h : i.natAbs < 10 ^ 12) : Sm 0 13 (.int i) := by
  refine ⟨?_, by simp [PyData.depth], PyData.shown_int_le h⟩
  have : i.natAbs.log2 < 1920 := by
    by_cases z : i.natAbs = 0
    · rw [z]; decide
    · rw [Nat.log2_lt z]
      exact Nat.lt_of_lt_of_le h (by decide)
  simpa [PyData.showable] using this
theorem Sm.up {k n k2 n2 : Nat} {d : PyData} (h : Sm k n d) (hk : k ≤ k2) (hn : n ≤ n2) : Sm k2 n2 d := ⟨h.sh, Nat.le_trans h.dp hk, Nat.le_trans h.ln hn⟩
theorem sm_l1 {k n : Nat} {d : PyData} (h : Sm k n d) : Sm (k + 1) (n + 5) (.list [d]) := by
  refine ⟨by simp [PyData.showable, PyData.showableAll, h.sh], ?_, ?_⟩
  · simp only [PyData.depth, PyData.depthAll]
    have := h.dp
    omega
  · have e := listText_len_le (PyData.shownAll [d])
    have := h.ln
    simp only [PyData.shown, PyData.shownAll, List.map_cons, List.map_nil, List.sum_cons, List.sum_nil, List.length_cons, List.length_nil] at e ⊢
    omega
theorem sm_l2 {k n m : Nat} {d e : PyData} (h : Sm k n d) (h2 : Sm k m e) : Sm (k + 1) (n + m + 7) (.list [d, e]) := by
  refine ⟨by simp [PyData.showable, PyData.showableAll, h.sh, h2.sh], ?_, ?_⟩
  · simp only [PyData.depth, PyData.depthAll]
    have := h.dp
    have := h2.dp
    omega
  · have z := listText_len_le (PyData.shownAll [d, e])
    have := h.ln
    have := h2.ln
    simp only [PyData.shown, PyData.shownAll, List.map_cons, List.map_nil, List.sum_cons, List.sum_nil, List.length_cons, List.length_nil] at z ⊢
    omega
theorem sm_t2 {k n m : Nat} {d e : PyData} (h : Sm k n d) (h2 : Sm k m e) : Sm (k + 1) (n + m + 7) (.tuple [d, e]) := by
  refine ⟨by simp [PyData.showable, PyData.showableAll, h.sh, h2.sh], ?_, ?_⟩
  · simp only [PyData.depth, PyData.depthAll]
    have := h.dp
    have := h2.dp
    omega
  · have z := tupleText_len_le (PyData.shownAll [d, e])
    have := h.ln
    have := h2.ln
    simp only [PyData.shown, PyData.shownAll, List.map_cons, List.map_nil, List.sum_cons, List.sum_nil, List.length_cons, List.length_nil] at z ⊢
    omega
theorem sm_d1 {k n m : Nat} {d e : PyData} (h : Sm k n d) (h2 : Sm k m e) : Sm (k + 1) (n + m + 7) (.dict [(d, e)]) := by
  refine ⟨by simp [PyData.showable, PyData.showableKv, h.sh, h2.sh], ?_, ?_⟩
  · simp only [PyData.depth, PyData.depthKv]
    have := h.dp
    have := h2.dp
    omega
  · have z := dictText_len_le (PyData.shownKv [(d, e)])
    have := h.ln
    have := h2.ln
    have a1 := app_len (d.shown ++ ": ") e.shown
    have a2 := app_len d.shown ": "
    have a3 : ((": " : Str)).length = 2 := by decide +kernel
    simp only [PyData.shown, PyData.shownKv, List.map_cons, List.map_nil, List.sum_cons, List.sum_nil, List.length_cons, List.length_nil] at z ⊢
    omega
theorem allX_nil {P : V → Prop} : ∀ v ∈ ([] : List V), P v := fun v h => by cases h
theorem allX_cons {P : V → Prop} {x : V} {l : List V} (h : P x) (t : ∀ v ∈ l, P v) : ∀ v ∈ x :: l, P v := fun v hv => by
  rcases List.mem_cons.mp hv with e | hv
  · rw [e]; exact h
  · exact t v hv
theorem allX_app {P : V → Prop} {l m : List V} (h : ∀ v ∈ l, P v) (t : ∀ v ∈ m, P v) : ∀ v ∈ l ++ m, P v := fun v hv => by
  rcases List.mem_append.mp hv with hv | hv
  · exact h v hv
  · exact t v hv
def spThing (K : PySem.W.Frag) : Sp := fun vs H Q _ => ∃ (p : Addr) (n : Nat), vs = [.ref p] ∧ Pen H p n ∧ n ≤ 90000 ∧ ∀ (v : V) (d : PyData) (H' : Hp), Th K p H' v d → Pen H' p (n + 20) → Keep p H H' → Q v H'
def spKinds (K : PySem.W.Frag) (cls : List Addr) : Sp := fun vs H Q _ => ∃ (a : Addr) (i : Nat), vs = [.ref a] ∧ i < 33 ∧ ErrAt K cls H a i ∧ ∀ (l : Addr) (H' : Hp), Same H H' → H' l = some (.lst [.int (i : Int)]) → Q (.ref l) H'
def spBased (K : PySem.W.Frag) (cls : List Addr) : Sp := fun vs H Q _ => ∃ (a : Addr) (i : Nat), vs = [.ref a] ∧ ErrAt K cls H a i ∧ ∀ (H' : Hp), Same H H' → Q (.bl true) H'
def spVals (K : PySem.W.Frag) (cls : List Addr) (base n : Nat) : Sp := fun vs H Q _ => ∃ v : V, vs = [v] ∧ ∀ (l : Addr) (ts : List Addr) (H' : Hp), Same H H' → H l = none → H' l = some (.lst (ts.map V.ref)) → ts.length = n → Ents K cls H' v ts base → Q (.ref l) H'
def spLaw (K : PySem.W.Frag) : Sp := fun vs H Q _ => ∃ (a : Addr) (ns : List Int), vs = [.ref a] ∧ SqL K H a (ns.map V.int) ∧ ns.length ≤ 63 ∧ ∀ H', Q (.bl true) H'
/-- a new object: the heap behind it -/
theorem knew {H Hk : Hp} {l : Addr} {o : HO} (S : Same H Hk) (n : Hk l = none) : ∃ H', upd Hk l o = H' ∧ Same H H' ∧ Same Hk H' ∧ H' l = some o := ⟨_, rfl, S.trans (same_upd n), same_upd n, upd_same⟩
def spSev (K : PySem.W.Frag) : Sp := fun vs H Q _ => ∃ (p : Addr) (x y z : V) (dx dy dz : PyData), vs = [x, y, z] ∧ Th K p H x dx ∧ Th K p H y dy ∧ Th K p H z dz ∧ ∀ H', Same H H' → Q (.bl true) H'
theorem seven_ok {a b c d e f g : PyData} (ha : Sm 10 200 a) (hb : Sm 10 200 b) (hc : Sm 10 200 c) (hd : Sm 10 200 d) (he : Sm 10 200 e) (hf : Sm 10 200 f) (hg : Sm 10 200 g) :
    PyData.showableAll [a, b, c, d, e, f, g] = true ∧ PyData.depthAll [a, b, c, d, e, f, g] ≤ 50 ∧ (PyData.shown (.list [a, b, c, d, e, f, g])).length ≤ sizeLine := by
  refine ⟨by simp [PyData.showableAll, ha.sh, hb.sh, hc.sh, hd.sh, he.sh, hf.sh, hg.sh], ?_, ?_⟩
  · have := ha.dp; have := hb.dp; have := hc.dp; have := hd.dp; have := he.dp; have := hf.dp; have := hg.dp
    simp only [PyData.depthAll]
    omega
  · have z := listText_len_le (PyData.shownAll [a, b, c, d, e, f, g])
    have := ha.ln; have := hb.ln; have := hc.ln; have := hd.ln; have := he.ln; have := hf.ln; have := hg.ln
    have hs : sizeLine = 16777216 := by decide +kernel
    simp only [PyData.shown, PyData.shownAll, List.map_cons, List.map_nil, List.sum_cons, List.sum_nil, List.length_cons, List.length_nil] at z ⊢
    omega
/-- exceptions of the classes from base on -/
def Errs (K : PySem.W.Frag) (cls : List Addr) (H : Hp) (as : List Addr) (base : Nat) : Prop := ∀ (j : Nat) (a : Addr), as[j]? = some a → ErrAt K cls H a (base + j)
theorem Errs.same {K : PySem.W.Frag} {cls : List Addr} {H H' : Hp} {as : List Addr} {base : Nat} (e : Errs K cls H as base) (s : Same H H') : Errs K cls H' as base := fun j a h => (e j a h).same s
theorem errs_nil {K : PySem.W.Frag} {cls : List Addr} {H : Hp} {base : Nat} : Errs K cls H [] base := fun j a h => by cases h
theorem errs_cons {K : PySem.W.Frag} {cls : List Addr} {H : Hp} {a : Addr} {as : List Addr} {base : Nat} (h : ErrAt K cls H a base) (t : Errs K cls H as (base + 1)) : Errs K cls H (a :: as) base := fun j b hb => by
  cases j with
  | zero =>
    cases Option.some.inj hb
    exact h
  | succ j =>
    have := t j b hb
    rw [show base + 1 + j = base + (j + 1) by omega] at this
    exact this
theorem map_ref {L : List Addr} {k : Nat} {x : V} (h : (L.map V.ref)[k]? = some x) : ∃ a, L[k]? = some a ∧ x = .ref a := by
  rw [List.getElem?_map] at h
  cases e : L[k]? with
  | none => rw [e] at h; cases h
  | some a => rw [e] at h; exact ⟨a, rfl, (Option.some.inj h).symm⟩
/-- lists [base], [base + 1], .. -/
def Marks (H : Hp) (ls : List Addr) (base n : Nat) : Prop := ls.length = n ∧ ∀ (j : Nat) (l : Addr), ls[j]? = some l → H l = some (.lst [.int ((base + j : Nat) : Int)])
theorem marks_nil {H : Hp} {base : Nat} : Marks H [] base 0 := ⟨rfl, fun j l h => by cases h⟩
theorem Marks.same {H H' : Hp} {ls : List Addr} {base n : Nat} (m : Marks H ls base n) (s : Same H H') : Marks H' ls base n := ⟨m.1, fun j l h => s _ _ (m.2 j l h)⟩
theorem Marks.snoc {H : Hp} {ls ks : List Addr} {base n : Nat} {l D : Addr} {ys : List V} (m : Marks H ls base n) (hD : H D = some (.lst (ks.map V.ref))) (hl : H l = some (.lst [.int ((base + n : Nat) : Int)])) : Marks (upd H D (.lst ys)) (ls ++ [l]) base (n + 1) := by
  have apart : ∀ {k : Addr} {i : Int}, H k = some (.lst [.int i]) → k ≠ D := fun {k i} h => ne_of h hD (by
    intro z
    cases ks with
    | nil => cases z
    | cons a r => cases z)
  refine ⟨by rw [List.length_append, m.1]; rfl, fun j k h => ?_⟩
  by_cases hj : j < ls.length
  · rw [List.getElem?_append_left hj] at h
    have e := m.2 j k h
    rw [upd_ne (apart e)]
    exact e
  · rw [List.getElem?_append_right (by omega)] at h
    have hj0 : j - ls.length = 0 := by
      cases q : j - ls.length with
      | zero => rfl
      | succ m =>
        rw [q] at h
        cases h
    rw [hj0] at h
    cases Option.some.inj h
    have e : j = n := by
      have := m.1
      omega
    rw [upd_ne (apart hl), e]
    exact hl
def marksD : Nat → Nat → List PyData
  | _, 0 => []
  | b, n + 1 => .list [.int (b : Int)] :: marksD (b + 1) n
theorem Marks.dp {K : PySem.W.Frag} {H : Hp} : ∀ {ls : List Addr} {base n : Nat}, Marks H ls base n → DpAll K H (ls.map V.ref) (marksD base n)
  | [], base, n, m => by
    cases m.1
    exact .nil
  | l :: ls, base, n, m => by
    obtain ⟨hn, h⟩ := m
    cases n with
    | zero => cases hn
    | succ n =>
      refine .cons (.lst (SqL.of (h 0 l rfl)) (.cons (.int _) .nil)) (Marks.dp ⟨Nat.succ.inj hn, fun j k hk => ?_⟩)
      have := h (j + 1) k hk
      rw [show base + (j + 1) = base + 1 + j by omega] at this
      exact this
theorem Ents.app {K : PySem.W.Frag} {cls : List Addr} {H : Hp} {v : V} {ts us : List Addr} {n : Nat} (hn : ts.length = n) (a : Ents K cls H v ts 0) (b : Ents K cls H v us n) : Ents K cls H v (ts ++ us) 0 := fun j t h => by
  by_cases hj : j < ts.length
  · rw [List.getElem?_append_left hj] at h
    exact a j t h
  · rw [List.getElem?_append_right (by omega)] at h
    have := b _ t h
    rw [show n + (j - ts.length) = 0 + j by omega] at this
    exact this
theorem dp_rep {K : PySem.W.Frag} {H : Hp} {v : V} {d : PyData} (h : Dp K H v d) : ∀ n, DpAll K H (List.replicate n v) (List.replicate n d)
  | 0 => .nil
  | n + 1 => .cons h (dp_rep h n)
theorem eqv_one (i : Int) : PyData.eqv (.list [.int i]) (.list [.int i]) = true := by simp [PyData.eqv, PyData.eqvAll]
/-- what the top has written -/
structure Txt (K : PySem.W.Frag) (mg : Str → Option Value) where
  f__law_pen : Addr
  fd__law_pen : FuncData
  F__law_pen : Fun K "_law_pen" "_law_pen" s__law_pen f__law_pen fd__law_pen
  b__law_pen : Binds K fd__law_pen ["_law_script"] []
  m__law_pen : mg "_law_pen" = some (.ref f__law_pen)
  f__law_draw : Addr
  fd__law_draw : FuncData
  F__law_draw : Fun K "_law_draw" "_law_draw" s__law_draw f__law_draw fd__law_draw
  b__law_draw : Binds K fd__law_draw ["_law_pen_here", "_law_many"] []
  m__law_draw : mg "_law_draw" = some (.ref f__law_draw)
  f__law_pick : Addr
  fd__law_pick : FuncData
  F__law_pick : Fun K "_law_pick" "_law_pick" s__law_pick f__law_pick fd__law_pick
  b__law_pick : Binds K fd__law_pick ["_law_pen_here", "_law_some"] []
  m__law_pick : mg "_law_pick" = some (.ref f__law_pick)
  f__law_thing : Addr
  fd__law_thing : FuncData
  F__law_thing : Fun K "_law_thing" "_law_thing" s__law_thing f__law_thing fd__law_thing
  b__law_thing : Binds K fd__law_thing ["_law_pen_here"] []
  m__law_thing : mg "_law_thing" = some (.ref f__law_thing)
  f__law_kinds : Addr
  fd__law_kinds : FuncData
  F__law_kinds : Fun K "_law_kinds" "_law_kinds" s__law_kinds f__law_kinds fd__law_kinds
  b__law_kinds : Binds K fd__law_kinds ["_law_error"] []
  m__law_kinds : mg "_law_kinds" = some (.ref f__law_kinds)
  f__law_is_based : Addr
  fd__law_is_based : FuncData
  F__law_is_based : Fun K "_law_is_based" "_law_is_based" s__law_is_based f__law_is_based fd__law_is_based
  b__law_is_based : Binds K fd__law_is_based ["_law_error"] []
  m__law_is_based : mg "_law_is_based" = some (.ref f__law_is_based)
  f__law_values : Addr
  fd__law_values : FuncData
  F__law_values : Fun K "_law_values" "_law_values" s__law_values f__law_values fd__law_values
  b__law_values : Binds K fd__law_values ["_law_left"] []
  m__law_values : mg "_law_values" = some (.ref f__law_values)
  f__law_places : Addr
  fd__law_places : FuncData
  F__law_places : Fun K "_law_places" "_law_places" s__law_places f__law_places fd__law_places
  b__law_places : Binds K fd__law_places ["_law_left"] []
  m__law_places : mg "_law_places" = some (.ref f__law_places)
  f__law_several_right : Addr
  fd__law_several_right : FuncData
  F__law_several_right : Fun K "_law_several_right" "_law_several_right" s__law_several_right f__law_several_right fd__law_several_right
  b__law_several_right : Binds K fd__law_several_right ["_law_left", "_law_middle", "_law_right"] []
  m__law_several_right : mg "_law_several_right" = some (.ref f__law_several_right)
  f_law : Addr
  fd_law : FuncData
  F_law : Fun K "law" "law" s_law f_law fd_law
  b_law : Binds K fd_law ["_law_script"] []
  m_law : mg "law" = some (.ref f_law)
  n_ArithmeticError : mg "ArithmeticError" = none
  n_IndexError : mg "IndexError" = none
  n_KeyError : mg "KeyError" = none
  n_LookupError : mg "LookupError" = none
  n_OverflowError : mg "OverflowError" = none
  n_RuntimeError : mg "RuntimeError" = none
  n_TypeError : mg "TypeError" = none
  n_ValueError : mg "ValueError" = none
  n_abs : mg "abs" = none
  n_enumerate : mg "enumerate" = none
  n_int : mg "int" = none
  n_isinstance : mg "isinstance" = none
  n_len : mg "len" = none
  n_list : mg "list" = none
  n_range : mg "range" = none
  n_repr : mg "repr" = none
  c_InvalidName : Addr
  f_InvalidName_init : Addr
  fd_InvalidName_init : FuncData
  F_InvalidName_init : Fun K "__init__" "InvalidName.__init__" s_InvalidName_init f_InvalidName_init fd_InvalidName_init
  b_InvalidName_init : Binds K fd_InvalidName_init ["self", "value"] []
  m_InvalidName : mg "InvalidName" = some (.ref c_InvalidName)
  ex_InvalidName : ExK K c_InvalidName f_InvalidName_init
  no_InvalidName_value : PySem.W.findIn K (.ref c_InvalidName) "value" = some none
  c_InvalidNumber : Addr
  f_InvalidNumber_init : Addr
  fd_InvalidNumber_init : FuncData
  F_InvalidNumber_init : Fun K "__init__" "InvalidNumber.__init__" s_InvalidNumber_init f_InvalidNumber_init fd_InvalidNumber_init
  b_InvalidNumber_init : Binds K fd_InvalidNumber_init ["self", "value"] []
  m_InvalidNumber : mg "InvalidNumber" = some (.ref c_InvalidNumber)
  ex_InvalidNumber : ExK K c_InvalidNumber f_InvalidNumber_init
  no_InvalidNumber_value : PySem.W.findIn K (.ref c_InvalidNumber) "value" = some none
  c_InvalidRow : Addr
  f_InvalidRow_init : Addr
  fd_InvalidRow_init : FuncData
  F_InvalidRow_init : Fun K "__init__" "InvalidRow.__init__" s_InvalidRow_init f_InvalidRow_init fd_InvalidRow_init
  b_InvalidRow_init : Binds K fd_InvalidRow_init ["self", "value"] []
  m_InvalidRow : mg "InvalidRow" = some (.ref c_InvalidRow)
  ex_InvalidRow : ExK K c_InvalidRow f_InvalidRow_init
  no_InvalidRow_value : PySem.W.findIn K (.ref c_InvalidRow) "value" = some none
  c_NoTarget : Addr
  f_NoTarget_init : Addr
  fd_NoTarget_init : FuncData
  F_NoTarget_init : Fun K "__init__" "NoTarget.__init__" s_NoTarget_init f_NoTarget_init fd_NoTarget_init
  b_NoTarget_init : Binds K fd_NoTarget_init ["self", "value"] []
  m_NoTarget : mg "NoTarget" = some (.ref c_NoTarget)
  ex_NoTarget : ExK K c_NoTarget f_NoTarget_init
  no_NoTarget_value : PySem.W.findIn K (.ref c_NoTarget) "value" = some none
  c_NoClass : Addr
  f_NoClass_init : Addr
  fd_NoClass_init : FuncData
  F_NoClass_init : Fun K "__init__" "NoClass.__init__" s_NoClass_init f_NoClass_init fd_NoClass_init
  b_NoClass_init : Binds K fd_NoClass_init ["self", "value"] []
  m_NoClass : mg "NoClass" = some (.ref c_NoClass)
  ex_NoClass : ExK K c_NoClass f_NoClass_init
  no_NoClass_value : PySem.W.findIn K (.ref c_NoClass) "value" = some none
  c_NoLanding : Addr
  f_NoLanding_init : Addr
  fd_NoLanding_init : FuncData
  F_NoLanding_init : Fun K "__init__" "NoLanding.__init__" s_NoLanding_init f_NoLanding_init fd_NoLanding_init
  b_NoLanding_init : Binds K fd_NoLanding_init ["self", "value"] []
  m_NoLanding : mg "NoLanding" = some (.ref c_NoLanding)
  ex_NoLanding : ExK K c_NoLanding f_NoLanding_init
  no_NoLanding_value : PySem.W.findIn K (.ref c_NoLanding) "value" = some none
  c_InvalidRows : Addr
  f_InvalidRows_init : Addr
  fd_InvalidRows_init : FuncData
  F_InvalidRows_init : Fun K "__init__" "InvalidRows.__init__" s_InvalidRows_init f_InvalidRows_init fd_InvalidRows_init
  b_InvalidRows_init : Binds K fd_InvalidRows_init ["self", "part"] []
  m_InvalidRows : mg "InvalidRows" = some (.ref c_InvalidRows)
  ex_InvalidRows : ExK K c_InvalidRows f_InvalidRows_init
  no_InvalidRows_part : PySem.W.findIn K (.ref c_InvalidRows) "part" = some none
  c_InvalidKind : Addr
  f_InvalidKind_init : Addr
  fd_InvalidKind_init : FuncData
  F_InvalidKind_init : Fun K "__init__" "InvalidKind.__init__" s_InvalidKind_init f_InvalidKind_init fd_InvalidKind_init
  b_InvalidKind_init : Binds K fd_InvalidKind_init ["self", "part"] []
  m_InvalidKind : mg "InvalidKind" = some (.ref c_InvalidKind)
  ex_InvalidKind : ExK K c_InvalidKind f_InvalidKind_init
  no_InvalidKind_part : PySem.W.findIn K (.ref c_InvalidKind) "part" = some none
  c_InvalidFrame : Addr
  f_InvalidFrame_init : Addr
  fd_InvalidFrame_init : FuncData
  F_InvalidFrame_init : Fun K "__init__" "InvalidFrame.__init__" s_InvalidFrame_init f_InvalidFrame_init fd_InvalidFrame_init
  b_InvalidFrame_init : Binds K fd_InvalidFrame_init ["self", "part"] []
  m_InvalidFrame : mg "InvalidFrame" = some (.ref c_InvalidFrame)
  ex_InvalidFrame : ExK K c_InvalidFrame f_InvalidFrame_init
  no_InvalidFrame_part : PySem.W.findIn K (.ref c_InvalidFrame) "part" = some none
  c_InvalidWord : Addr
  f_InvalidWord_init : Addr
  fd_InvalidWord_init : FuncData
  F_InvalidWord_init : Fun K "__init__" "InvalidWord.__init__" s_InvalidWord_init f_InvalidWord_init fd_InvalidWord_init
  b_InvalidWord_init : Binds K fd_InvalidWord_init ["self", "part"] []
  m_InvalidWord : mg "InvalidWord" = some (.ref c_InvalidWord)
  ex_InvalidWord : ExK K c_InvalidWord f_InvalidWord_init
  no_InvalidWord_part : PySem.W.findIn K (.ref c_InvalidWord) "part" = some none
  c_NotReady : Addr
  f_NotReady_init : Addr
  fd_NotReady_init : FuncData
  F_NotReady_init : Fun K "__init__" "NotReady.__init__" s_NotReady_init f_NotReady_init fd_NotReady_init
  b_NotReady_init : Binds K fd_NotReady_init ["self", "part"] []
  m_NotReady : mg "NotReady" = some (.ref c_NotReady)
  ex_NotReady : ExK K c_NotReady f_NotReady_init
  no_NotReady_part : PySem.W.findIn K (.ref c_NotReady) "part" = some none
  c_TooMany : Addr
  f_TooMany_init : Addr
  fd_TooMany_init : FuncData
  F_TooMany_init : Fun K "__init__" "TooMany.__init__" s_TooMany_init f_TooMany_init fd_TooMany_init
  b_TooMany_init : Binds K fd_TooMany_init ["self", "part"] []
  m_TooMany : mg "TooMany" = some (.ref c_TooMany)
  ex_TooMany : ExK K c_TooMany f_TooMany_init
  no_TooMany_part : PySem.W.findIn K (.ref c_TooMany) "part" = some none
  c_InvalidAddress : Addr
  f_InvalidAddress_init : Addr
  fd_InvalidAddress_init : FuncData
  F_InvalidAddress_init : Fun K "__init__" "InvalidAddress.__init__" s_InvalidAddress_init f_InvalidAddress_init fd_InvalidAddress_init
  b_InvalidAddress_init : Binds K fd_InvalidAddress_init ["self", "address"] []
  m_InvalidAddress : mg "InvalidAddress" = some (.ref c_InvalidAddress)
  ex_InvalidAddress : ExK K c_InvalidAddress f_InvalidAddress_init
  no_InvalidAddress_address : PySem.W.findIn K (.ref c_InvalidAddress) "address" = some none
  c_Locked : Addr
  f_Locked_init : Addr
  fd_Locked_init : FuncData
  F_Locked_init : Fun K "__init__" "Locked.__init__" s_Locked_init f_Locked_init fd_Locked_init
  b_Locked_init : Binds K fd_Locked_init ["self", "address"] []
  m_Locked : mg "Locked" = some (.ref c_Locked)
  ex_Locked : ExK K c_Locked f_Locked_init
  no_Locked_address : PySem.W.findIn K (.ref c_Locked) "address" = some none
  c_Blank : Addr
  f_Blank_init : Addr
  fd_Blank_init : FuncData
  F_Blank_init : Fun K "__init__" "Blank.__init__" s_Blank_init f_Blank_init fd_Blank_init
  b_Blank_init : Binds K fd_Blank_init ["self", "address"] []
  m_Blank : mg "Blank" = some (.ref c_Blank)
  ex_Blank : ExK K c_Blank f_Blank_init
  no_Blank_address : PySem.W.findIn K (.ref c_Blank) "address" = some none
  c_StateClash : Addr
  f_StateClash_init : Addr
  fd_StateClash_init : FuncData
  F_StateClash_init : Fun K "__init__" "StateClash.__init__" s_StateClash_init f_StateClash_init fd_StateClash_init
  b_StateClash_init : Binds K fd_StateClash_init ["self", "name"] []
  m_StateClash : mg "StateClash" = some (.ref c_StateClash)
  ex_StateClash : ExK K c_StateClash f_StateClash_init
  no_StateClash_name : PySem.W.findIn K (.ref c_StateClash) "name" = some none
  c_NoCondition : Addr
  f_NoCondition_init : Addr
  fd_NoCondition_init : FuncData
  F_NoCondition_init : Fun K "__init__" "NoCondition.__init__" s_NoCondition_init f_NoCondition_init fd_NoCondition_init
  b_NoCondition_init : Binds K fd_NoCondition_init ["self", "name"] []
  m_NoCondition : mg "NoCondition" = some (.ref c_NoCondition)
  ex_NoCondition : ExK K c_NoCondition f_NoCondition_init
  no_NoCondition_name : PySem.W.findIn K (.ref c_NoCondition) "name" = some none
  c_NoField : Addr
  f_NoField_init : Addr
  fd_NoField_init : FuncData
  F_NoField_init : Fun K "__init__" "NoField.__init__" s_NoField_init f_NoField_init fd_NoField_init
  b_NoField_init : Binds K fd_NoField_init ["self", "name"] []
  m_NoField : mg "NoField" = some (.ref c_NoField)
  ex_NoField : ExK K c_NoField f_NoField_init
  no_NoField_name : PySem.W.findIn K (.ref c_NoField) "name" = some none
  c_NoKind : Addr
  f_NoKind_init : Addr
  fd_NoKind_init : FuncData
  F_NoKind_init : Fun K "__init__" "NoKind.__init__" s_NoKind_init f_NoKind_init fd_NoKind_init
  b_NoKind_init : Binds K fd_NoKind_init ["self", "name"] []
  m_NoKind : mg "NoKind" = some (.ref c_NoKind)
  ex_NoKind : ExK K c_NoKind f_NoKind_init
  no_NoKind_name : PySem.W.findIn K (.ref c_NoKind) "name" = some none
  c_NoState : Addr
  f_NoState_init : Addr
  fd_NoState_init : FuncData
  F_NoState_init : Fun K "__init__" "NoState.__init__" s_NoState_init f_NoState_init fd_NoState_init
  b_NoState_init : Binds K fd_NoState_init ["self", "name"] []
  m_NoState : mg "NoState" = some (.ref c_NoState)
  ex_NoState : ExK K c_NoState f_NoState_init
  no_NoState_name : PySem.W.findIn K (.ref c_NoState) "name" = some none
  c_Taken : Addr
  f_Taken_init : Addr
  fd_Taken_init : FuncData
  F_Taken_init : Fun K "__init__" "Taken.__init__" s_Taken_init f_Taken_init fd_Taken_init
  b_Taken_init : Binds K fd_Taken_init ["self", "name"] []
  m_Taken : mg "Taken" = some (.ref c_Taken)
  ex_Taken : ExK K c_Taken f_Taken_init
  no_Taken_name : PySem.W.findIn K (.ref c_Taken) "name" = some none
  c_NotPossible : Addr
  f_NotPossible_init : Addr
  fd_NotPossible_init : FuncData
  F_NotPossible_init : Fun K "__init__" "NotPossible.__init__" s_NotPossible_init f_NotPossible_init fd_NotPossible_init
  b_NotPossible_init : Binds K fd_NotPossible_init ["self", "row"] []
  m_NotPossible : mg "NotPossible" = some (.ref c_NotPossible)
  ex_NotPossible : ExK K c_NotPossible f_NotPossible_init
  no_NotPossible_row : PySem.W.findIn K (.ref c_NotPossible) "row" = some none
  c_NoCase : Addr
  f_NoCase_init : Addr
  fd_NoCase_init : FuncData
  F_NoCase_init : Fun K "__init__" "NoCase.__init__" s_NoCase_init f_NoCase_init fd_NoCase_init
  b_NoCase_init : Binds K fd_NoCase_init ["self", "case"] []
  m_NoCase : mg "NoCase" = some (.ref c_NoCase)
  ex_NoCase : ExK K c_NoCase f_NoCase_init
  no_NoCase_case : PySem.W.findIn K (.ref c_NoCase) "case" = some none
  c_WrongCount : Addr
  f_WrongCount_init : Addr
  fd_WrongCount_init : FuncData
  F_WrongCount_init : Fun K "__init__" "WrongCount.__init__" s_WrongCount_init f_WrongCount_init fd_WrongCount_init
  b_WrongCount_init : Binds K fd_WrongCount_init ["self", "wanted"] []
  m_WrongCount : mg "WrongCount" = some (.ref c_WrongCount)
  ex_WrongCount : ExK K c_WrongCount f_WrongCount_init
  no_WrongCount_wanted : PySem.W.findIn K (.ref c_WrongCount) "wanted" = some none
  c_TooLarge : Addr
  f_TooLarge_init : Addr
  fd_TooLarge_init : FuncData
  F_TooLarge_init : Fun K "__init__" "TooLarge.__init__" s_TooLarge_init f_TooLarge_init fd_TooLarge_init
  b_TooLarge_init : Binds K fd_TooLarge_init ["self", "limit"] []
  m_TooLarge : mg "TooLarge" = some (.ref c_TooLarge)
  ex_TooLarge : ExK K c_TooLarge f_TooLarge_init
  no_TooLarge_limit : PySem.W.findIn K (.ref c_TooLarge) "limit" = some none
  c_InvalidText : Addr
  f_InvalidText_init : Addr
  fd_InvalidText_init : FuncData
  F_InvalidText_init : Fun K "__init__" "InvalidText.__init__" s_InvalidText_init f_InvalidText_init fd_InvalidText_init
  b_InvalidText_init : Binds K fd_InvalidText_init ["self", "line", "word"] []
  m_InvalidText : mg "InvalidText" = some (.ref c_InvalidText)
  ex_InvalidText : ExK K c_InvalidText f_InvalidText_init
  no_InvalidText_line : PySem.W.findIn K (.ref c_InvalidText) "line" = some none
  no_InvalidText_word : PySem.W.findIn K (.ref c_InvalidText) "word" = some none
  c_FieldClash : Addr
  f_FieldClash_init : Addr
  fd_FieldClash_init : FuncData
  F_FieldClash_init : Fun K "__init__" "FieldClash.__init__" s_FieldClash_init f_FieldClash_init fd_FieldClash_init
  b_FieldClash_init : Binds K fd_FieldClash_init ["self", "field", "one", "other"] []
  m_FieldClash : mg "FieldClash" = some (.ref c_FieldClash)
  ex_FieldClash : ExK K c_FieldClash f_FieldClash_init
  no_FieldClash_field : PySem.W.findIn K (.ref c_FieldClash) "field" = some none
  no_FieldClash_one : PySem.W.findIn K (.ref c_FieldClash) "one" = some none
  no_FieldClash_other : PySem.W.findIn K (.ref c_FieldClash) "other" = some none
  c_Clash : Addr
  f_Clash_init : Addr
  fd_Clash_init : FuncData
  F_Clash_init : Fun K "__init__" "Clash.__init__" s_Clash_init f_Clash_init fd_Clash_init
  b_Clash_init : Binds K fd_Clash_init ["self", "lesser", "name"] []
  m_Clash : mg "Clash" = some (.ref c_Clash)
  ex_Clash : ExK K c_Clash f_Clash_init
  no_Clash_lesser : PySem.W.findIn K (.ref c_Clash) "lesser" = some none
  no_Clash_name : PySem.W.findIn K (.ref c_Clash) "name" = some none
  c_NoStates : Addr
  f_NoStates_init : Addr
  fd_NoStates_init : FuncData
  F_NoStates_init : Fun K "__init__" "NoStates.__init__" s_NoStates_init f_NoStates_init fd_NoStates_init
  b_NoStates_init : Binds K fd_NoStates_init ["self"] []
  m_NoStates : mg "NoStates" = some (.ref c_NoStates)
  ex_NoStates : ExK K c_NoStates f_NoStates_init
  c_NoEntries : Addr
  f_NoEntries_init : Addr
  fd_NoEntries_init : FuncData
  F_NoEntries_init : Fun K "__init__" "NoEntries.__init__" s_NoEntries_init f_NoEntries_init fd_NoEntries_init
  b_NoEntries_init : Binds K fd_NoEntries_init ["self"] []
  m_NoEntries : mg "NoEntries" = some (.ref c_NoEntries)
  ex_NoEntries : ExK K c_NoEntries f_NoEntries_init
  c_NotEnd : Addr
  f_NotEnd_init : Addr
  fd_NotEnd_init : FuncData
  F_NotEnd_init : Fun K "__init__" "NotEnd.__init__" s_NotEnd_init f_NotEnd_init fd_NotEnd_init
  b_NotEnd_init : Binds K fd_NotEnd_init ["self"] []
  m_NotEnd : mg "NotEnd" = some (.ref c_NotEnd)
  ex_NotEnd : ExK K c_NotEnd f_NotEnd_init
  c_NotCarried : Addr
  f_NotCarried_init : Addr
  fd_NotCarried_init : FuncData
  F_NotCarried_init : Fun K "__init__" "NotCarried.__init__" s_NotCarried_init f_NotCarried_init fd_NotCarried_init
  b_NotCarried_init : Binds K fd_NotCarried_init ["self"] []
  m_NotCarried : mg "NotCarried" = some (.ref c_NotCarried)
  ex_NotCarried : ExK K c_NotCarried f_NotCarried_init
  c_Unlike : Addr
  f_Unlike_init : Addr
  fd_Unlike_init : FuncData
  F_Unlike_init : Fun K "__init__" "Unlike.__init__" s_Unlike_init f_Unlike_init fd_Unlike_init
  b_Unlike_init : Binds K fd_Unlike_init ["self"] []
  m_Unlike : mg "Unlike" = some (.ref c_Unlike)
  ex_Unlike : ExK K c_Unlike f_Unlike_init
  c_OrError : Addr
  m_OrError : mg "OrError" = some (.ref c_OrError)
  Z : ClsK K
  tab : ∀ (i j : Nat) (c e : Addr), ([c_InvalidName, c_InvalidNumber, c_InvalidRow, c_NoTarget, c_NoClass, c_NoLanding, c_InvalidRows, c_InvalidKind, c_InvalidFrame, c_InvalidWord, c_NotReady, c_TooMany, c_InvalidAddress, c_Locked, c_Blank, c_StateClash, c_NoCondition, c_NoField, c_NoKind, c_NoState, c_Taken, c_NotPossible, c_NoCase, c_WrongCount, c_TooLarge, c_InvalidText, c_FieldClash, c_Clash, c_NoStates, c_NoEntries, c_NotEnd, c_NotCarried, c_Unlike] : List Addr)[i]? = some c → ([c_InvalidName, c_InvalidNumber, c_InvalidRow, c_NoTarget, c_NoClass, c_NoLanding, c_InvalidRows, c_InvalidKind, c_InvalidFrame, c_InvalidWord, c_NotReady, c_TooMany, c_InvalidAddress, c_Locked, c_Blank, c_StateClash, c_NoCondition, c_NoField, c_NoKind, c_NoState, c_Taken, c_NotPossible, c_NoCase, c_WrongCount, c_TooLarge, c_InvalidText, c_FieldClash, c_Clash, c_NoStates, c_NoEntries, c_NotEnd, c_NotCarried, c_Unlike] : List Addr)[j]? = some e → PySem.W.kitOne K (.ref c) (.ref e) = some (decide (i = j))
  tor : ∀ C ∈ ([c_InvalidName, c_InvalidNumber, c_InvalidRow, c_NoTarget, c_NoClass, c_NoLanding, c_InvalidRows, c_InvalidKind, c_InvalidFrame, c_InvalidWord, c_NotReady, c_TooMany, c_InvalidAddress, c_Locked, c_Blank, c_StateClash, c_NoCondition, c_NoField, c_NoKind, c_NoState, c_Taken, c_NotPossible, c_NoCase, c_WrongCount, c_TooLarge, c_InvalidText, c_FieldClash, c_Clash, c_NoStates, c_NoEntries, c_NotEnd, c_NotCarried, c_Unlike] : List Addr), PySem.W.kitOne K (.ref C) (.ref c_OrError) = some true
  tve : ∀ C ∈ ([c_InvalidName, c_InvalidNumber, c_InvalidRow, c_NoTarget, c_NoClass, c_NoLanding, c_InvalidRows, c_InvalidKind, c_InvalidFrame, c_InvalidWord, c_NotReady, c_TooMany, c_InvalidAddress, c_Locked, c_Blank, c_StateClash, c_NoCondition, c_NoField, c_NoKind, c_NoState, c_Taken, c_NotPossible, c_NoCase, c_WrongCount, c_TooLarge, c_InvalidText, c_FieldClash, c_Clash, c_NoStates, c_NoEntries, c_NotEnd, c_NotCarried, c_Unlike] : List Addr), PySem.W.kitOne K (.ref C) (.type "ValueError") = some true
  tn1 : ∀ C ∈ ([c_InvalidName, c_InvalidNumber, c_InvalidRow, c_NoTarget, c_NoClass, c_NoLanding, c_InvalidRows, c_InvalidKind, c_InvalidFrame, c_InvalidWord, c_NotReady, c_TooMany, c_InvalidAddress, c_Locked, c_Blank, c_StateClash, c_NoCondition, c_NoField, c_NoKind, c_NoState, c_Taken, c_NotPossible, c_NoCase, c_WrongCount, c_TooLarge, c_InvalidText, c_FieldClash, c_Clash, c_NoStates, c_NoEntries, c_NotEnd, c_NotCarried, c_Unlike] : List Addr), PySem.W.kitAny K (.ref C) [.type "KeyError", .type "IndexError", .type "LookupError", .type "ArithmeticError", .type "OverflowError"] = some false
  tn2 : ∀ C ∈ ([c_InvalidName, c_InvalidNumber, c_InvalidRow, c_NoTarget, c_NoClass, c_NoLanding, c_InvalidRows, c_InvalidKind, c_InvalidFrame, c_InvalidWord, c_NotReady, c_TooMany, c_InvalidAddress, c_Locked, c_Blank, c_StateClash, c_NoCondition, c_NoField, c_NoKind, c_NoState, c_Taken, c_NotPossible, c_NoCase, c_WrongCount, c_TooLarge, c_InvalidText, c_FieldClash, c_Clash, c_NoStates, c_NoEntries, c_NotEnd, c_NotCarried, c_Unlike] : List Addr), PySem.W.kitAny K (.ref C) [.type "TypeError", .type "RuntimeError"] = some false
/-- the classes in the order of the law -/
def Txt.cls {K : PySem.W.Frag} {mg : Str → Option Value} (T : Txt K mg) : List Addr := [T.c_InvalidName, T.c_InvalidNumber, T.c_InvalidRow, T.c_NoTarget, T.c_NoClass, T.c_NoLanding, T.c_InvalidRows, T.c_InvalidKind, T.c_InvalidFrame, T.c_InvalidWord, T.c_NotReady, T.c_TooMany, T.c_InvalidAddress, T.c_Locked, T.c_Blank, T.c_StateClash, T.c_NoCondition, T.c_NoField, T.c_NoKind, T.c_NoState, T.c_Taken, T.c_NotPossible, T.c_NoCase, T.c_WrongCount, T.c_TooLarge, T.c_InvalidText, T.c_FieldClash, T.c_Clash, T.c_NoStates, T.c_NoEntries, T.c_NotEnd, T.c_NotCarried, T.c_Unlike]
section
variable {P : Program} {w : World} {K : PySem.W.Frag} {mg : Str → Option Value} {base : Heap}
theorem ok_InvalidName_init (T : Txt K mg) : FnOk P w K mg base CX0 1 T.f_InvalidName_init T.fd_InvalidName_init ["self", "value"] (spIni T.c_InvalidName ["value"]) := by
  refine T.F_InvalidName_init.ok sc_InvalidName_init (fun vs H Q E h => ?_) (fun cdv A outer s H vs Q E hr h => ?_)
  · obtain ⟨a, vs, rfl, hl, _⟩ := h
    show vs.length + 1 = _
    rw [hl]
    rfl
  · obtain ⟨a, vs, rfl, hl, h1, q⟩ := h
    obtain ⟨v0, rfl⟩ : ∃ v0, vs = [v0] := match vs, hl with | [v0], _ => ⟨_, rfl⟩
    refine ⟨_, pss_one (ps_ost (pv 0) (pv 1)), ?_⟩
    refine ⟨_, rfl, _, rfl, a, T.c_InvalidName, rfl, T.ex_InvalidName.oex, T.no_InvalidName_value, .inl ⟨h1, fun d nd ne => ?_⟩⟩
    have n1 : a ≠ d := ne.symm
    refine q d _ nd ne ?_ ?_ (fun b n2 n3 => ?_)
    all_goals (try simp only [upd_same, upd_ne n1, upd_ne ne])
    all_goals first
      | rfl
      | (simp only [upd, if_neg n2, if_neg n3])
theorem ok_InvalidNumber_init (T : Txt K mg) : FnOk P w K mg base CX0 1 T.f_InvalidNumber_init T.fd_InvalidNumber_init ["self", "value"] (spIni T.c_InvalidNumber ["value"]) := by
  refine T.F_InvalidNumber_init.ok sc_InvalidNumber_init (fun vs H Q E h => ?_) (fun cdv A outer s H vs Q E hr h => ?_)
  · obtain ⟨a, vs, rfl, hl, _⟩ := h
    show vs.length + 1 = _
    rw [hl]
    rfl
  · obtain ⟨a, vs, rfl, hl, h1, q⟩ := h
    obtain ⟨v0, rfl⟩ : ∃ v0, vs = [v0] := match vs, hl with | [v0], _ => ⟨_, rfl⟩
    refine ⟨_, pss_one (ps_ost (pv 0) (pv 1)), ?_⟩
    refine ⟨_, rfl, _, rfl, a, T.c_InvalidNumber, rfl, T.ex_InvalidNumber.oex, T.no_InvalidNumber_value, .inl ⟨h1, fun d nd ne => ?_⟩⟩
    have n1 : a ≠ d := ne.symm
    refine q d _ nd ne ?_ ?_ (fun b n2 n3 => ?_)
    all_goals (try simp only [upd_same, upd_ne n1, upd_ne ne])
    all_goals first
      | rfl
      | (simp only [upd, if_neg n2, if_neg n3])
theorem ok_InvalidRow_init (T : Txt K mg) : FnOk P w K mg base CX0 1 T.f_InvalidRow_init T.fd_InvalidRow_init ["self", "value"] (spIni T.c_InvalidRow ["value"]) := by
  refine T.F_InvalidRow_init.ok sc_InvalidRow_init (fun vs H Q E h => ?_) (fun cdv A outer s H vs Q E hr h => ?_)
  · obtain ⟨a, vs, rfl, hl, _⟩ := h
    show vs.length + 1 = _
    rw [hl]
    rfl
  · obtain ⟨a, vs, rfl, hl, h1, q⟩ := h
    obtain ⟨v0, rfl⟩ : ∃ v0, vs = [v0] := match vs, hl with | [v0], _ => ⟨_, rfl⟩
    refine ⟨_, pss_one (ps_ost (pv 0) (pv 1)), ?_⟩
    refine ⟨_, rfl, _, rfl, a, T.c_InvalidRow, rfl, T.ex_InvalidRow.oex, T.no_InvalidRow_value, .inl ⟨h1, fun d nd ne => ?_⟩⟩
    have n1 : a ≠ d := ne.symm
    refine q d _ nd ne ?_ ?_ (fun b n2 n3 => ?_)
    all_goals (try simp only [upd_same, upd_ne n1, upd_ne ne])
    all_goals first
      | rfl
      | (simp only [upd, if_neg n2, if_neg n3])
theorem ok_NoTarget_init (T : Txt K mg) : FnOk P w K mg base CX0 1 T.f_NoTarget_init T.fd_NoTarget_init ["self", "value"] (spIni T.c_NoTarget ["value"]) := by
  refine T.F_NoTarget_init.ok sc_NoTarget_init (fun vs H Q E h => ?_) (fun cdv A outer s H vs Q E hr h => ?_)
  · obtain ⟨a, vs, rfl, hl, _⟩ := h
    show vs.length + 1 = _
    rw [hl]
    rfl
  · obtain ⟨a, vs, rfl, hl, h1, q⟩ := h
    obtain ⟨v0, rfl⟩ : ∃ v0, vs = [v0] := match vs, hl with | [v0], _ => ⟨_, rfl⟩
    refine ⟨_, pss_one (ps_ost (pv 0) (pv 1)), ?_⟩
    refine ⟨_, rfl, _, rfl, a, T.c_NoTarget, rfl, T.ex_NoTarget.oex, T.no_NoTarget_value, .inl ⟨h1, fun d nd ne => ?_⟩⟩
    have n1 : a ≠ d := ne.symm
    refine q d _ nd ne ?_ ?_ (fun b n2 n3 => ?_)
    all_goals (try simp only [upd_same, upd_ne n1, upd_ne ne])
    all_goals first
      | rfl
      | (simp only [upd, if_neg n2, if_neg n3])
theorem ok_NoClass_init (T : Txt K mg) : FnOk P w K mg base CX0 1 T.f_NoClass_init T.fd_NoClass_init ["self", "value"] (spIni T.c_NoClass ["value"]) := by
  refine T.F_NoClass_init.ok sc_NoClass_init (fun vs H Q E h => ?_) (fun cdv A outer s H vs Q E hr h => ?_)
  · obtain ⟨a, vs, rfl, hl, _⟩ := h
    show vs.length + 1 = _
    rw [hl]
    rfl
  · obtain ⟨a, vs, rfl, hl, h1, q⟩ := h
    obtain ⟨v0, rfl⟩ : ∃ v0, vs = [v0] := match vs, hl with | [v0], _ => ⟨_, rfl⟩
    refine ⟨_, pss_one (ps_ost (pv 0) (pv 1)), ?_⟩
    refine ⟨_, rfl, _, rfl, a, T.c_NoClass, rfl, T.ex_NoClass.oex, T.no_NoClass_value, .inl ⟨h1, fun d nd ne => ?_⟩⟩
    have n1 : a ≠ d := ne.symm
    refine q d _ nd ne ?_ ?_ (fun b n2 n3 => ?_)
    all_goals (try simp only [upd_same, upd_ne n1, upd_ne ne])
    all_goals first
      | rfl
      | (simp only [upd, if_neg n2, if_neg n3])
theorem ok_NoLanding_init (T : Txt K mg) : FnOk P w K mg base CX0 1 T.f_NoLanding_init T.fd_NoLanding_init ["self", "value"] (spIni T.c_NoLanding ["value"]) := by
  refine T.F_NoLanding_init.ok sc_NoLanding_init (fun vs H Q E h => ?_) (fun cdv A outer s H vs Q E hr h => ?_)
  · obtain ⟨a, vs, rfl, hl, _⟩ := h
    show vs.length + 1 = _
    rw [hl]
    rfl
  · obtain ⟨a, vs, rfl, hl, h1, q⟩ := h
    obtain ⟨v0, rfl⟩ : ∃ v0, vs = [v0] := match vs, hl with | [v0], _ => ⟨_, rfl⟩
    refine ⟨_, pss_one (ps_ost (pv 0) (pv 1)), ?_⟩
    refine ⟨_, rfl, _, rfl, a, T.c_NoLanding, rfl, T.ex_NoLanding.oex, T.no_NoLanding_value, .inl ⟨h1, fun d nd ne => ?_⟩⟩
    have n1 : a ≠ d := ne.symm
    refine q d _ nd ne ?_ ?_ (fun b n2 n3 => ?_)
    all_goals (try simp only [upd_same, upd_ne n1, upd_ne ne])
    all_goals first
      | rfl
      | (simp only [upd, if_neg n2, if_neg n3])
theorem ok_InvalidRows_init (T : Txt K mg) : FnOk P w K mg base CX0 1 T.f_InvalidRows_init T.fd_InvalidRows_init ["self", "part"] (spIni T.c_InvalidRows ["part"]) := by
  refine T.F_InvalidRows_init.ok sc_InvalidRows_init (fun vs H Q E h => ?_) (fun cdv A outer s H vs Q E hr h => ?_)
  · obtain ⟨a, vs, rfl, hl, _⟩ := h
    show vs.length + 1 = _
    rw [hl]
    rfl
  · obtain ⟨a, vs, rfl, hl, h1, q⟩ := h
    obtain ⟨v0, rfl⟩ : ∃ v0, vs = [v0] := match vs, hl with | [v0], _ => ⟨_, rfl⟩
    refine ⟨_, pss_one (ps_ost (pv 0) (pv 1)), ?_⟩
    refine ⟨_, rfl, _, rfl, a, T.c_InvalidRows, rfl, T.ex_InvalidRows.oex, T.no_InvalidRows_part, .inl ⟨h1, fun d nd ne => ?_⟩⟩
    have n1 : a ≠ d := ne.symm
    refine q d _ nd ne ?_ ?_ (fun b n2 n3 => ?_)
    all_goals (try simp only [upd_same, upd_ne n1, upd_ne ne])
    all_goals first
      | rfl
      | (simp only [upd, if_neg n2, if_neg n3])
theorem ok_InvalidKind_init (T : Txt K mg) : FnOk P w K mg base CX0 1 T.f_InvalidKind_init T.fd_InvalidKind_init ["self", "part"] (spIni T.c_InvalidKind ["part"]) := by
  refine T.F_InvalidKind_init.ok sc_InvalidKind_init (fun vs H Q E h => ?_) (fun cdv A outer s H vs Q E hr h => ?_)
  · obtain ⟨a, vs, rfl, hl, _⟩ := h
    show vs.length + 1 = _
    rw [hl]
    rfl
  · obtain ⟨a, vs, rfl, hl, h1, q⟩ := h
    obtain ⟨v0, rfl⟩ : ∃ v0, vs = [v0] := match vs, hl with | [v0], _ => ⟨_, rfl⟩
    refine ⟨_, pss_one (ps_ost (pv 0) (pv 1)), ?_⟩
    refine ⟨_, rfl, _, rfl, a, T.c_InvalidKind, rfl, T.ex_InvalidKind.oex, T.no_InvalidKind_part, .inl ⟨h1, fun d nd ne => ?_⟩⟩
    have n1 : a ≠ d := ne.symm
    refine q d _ nd ne ?_ ?_ (fun b n2 n3 => ?_)
    all_goals (try simp only [upd_same, upd_ne n1, upd_ne ne])
    all_goals first
      | rfl
      | (simp only [upd, if_neg n2, if_neg n3])
theorem ok_InvalidFrame_init (T : Txt K mg) : FnOk P w K mg base CX0 1 T.f_InvalidFrame_init T.fd_InvalidFrame_init ["self", "part"] (spIni T.c_InvalidFrame ["part"]) := by
  refine T.F_InvalidFrame_init.ok sc_InvalidFrame_init (fun vs H Q E h => ?_) (fun cdv A outer s H vs Q E hr h => ?_)
  · obtain ⟨a, vs, rfl, hl, _⟩ := h
    show vs.length + 1 = _
    rw [hl]
    rfl
  · obtain ⟨a, vs, rfl, hl, h1, q⟩ := h
    obtain ⟨v0, rfl⟩ : ∃ v0, vs = [v0] := match vs, hl with | [v0], _ => ⟨_, rfl⟩
    refine ⟨_, pss_one (ps_ost (pv 0) (pv 1)), ?_⟩
    refine ⟨_, rfl, _, rfl, a, T.c_InvalidFrame, rfl, T.ex_InvalidFrame.oex, T.no_InvalidFrame_part, .inl ⟨h1, fun d nd ne => ?_⟩⟩
    have n1 : a ≠ d := ne.symm
    refine q d _ nd ne ?_ ?_ (fun b n2 n3 => ?_)
    all_goals (try simp only [upd_same, upd_ne n1, upd_ne ne])
    all_goals first
      | rfl
      | (simp only [upd, if_neg n2, if_neg n3])
theorem ok_InvalidWord_init (T : Txt K mg) : FnOk P w K mg base CX0 1 T.f_InvalidWord_init T.fd_InvalidWord_init ["self", "part"] (spIni T.c_InvalidWord ["part"]) := by
  refine T.F_InvalidWord_init.ok sc_InvalidWord_init (fun vs H Q E h => ?_) (fun cdv A outer s H vs Q E hr h => ?_)
  · obtain ⟨a, vs, rfl, hl, _⟩ := h
    show vs.length + 1 = _
    rw [hl]
    rfl
  · obtain ⟨a, vs, rfl, hl, h1, q⟩ := h
    obtain ⟨v0, rfl⟩ : ∃ v0, vs = [v0] := match vs, hl with | [v0], _ => ⟨_, rfl⟩
    refine ⟨_, pss_one (ps_ost (pv 0) (pv 1)), ?_⟩
    refine ⟨_, rfl, _, rfl, a, T.c_InvalidWord, rfl, T.ex_InvalidWord.oex, T.no_InvalidWord_part, .inl ⟨h1, fun d nd ne => ?_⟩⟩
    have n1 : a ≠ d := ne.symm
    refine q d _ nd ne ?_ ?_ (fun b n2 n3 => ?_)
    all_goals (try simp only [upd_same, upd_ne n1, upd_ne ne])
    all_goals first
      | rfl
      | (simp only [upd, if_neg n2, if_neg n3])
theorem ok_NotReady_init (T : Txt K mg) : FnOk P w K mg base CX0 1 T.f_NotReady_init T.fd_NotReady_init ["self", "part"] (spIni T.c_NotReady ["part"]) := by
  refine T.F_NotReady_init.ok sc_NotReady_init (fun vs H Q E h => ?_) (fun cdv A outer s H vs Q E hr h => ?_)
  · obtain ⟨a, vs, rfl, hl, _⟩ := h
    show vs.length + 1 = _
    rw [hl]
    rfl
  · obtain ⟨a, vs, rfl, hl, h1, q⟩ := h
    obtain ⟨v0, rfl⟩ : ∃ v0, vs = [v0] := match vs, hl with | [v0], _ => ⟨_, rfl⟩
    refine ⟨_, pss_one (ps_ost (pv 0) (pv 1)), ?_⟩
    refine ⟨_, rfl, _, rfl, a, T.c_NotReady, rfl, T.ex_NotReady.oex, T.no_NotReady_part, .inl ⟨h1, fun d nd ne => ?_⟩⟩
    have n1 : a ≠ d := ne.symm
    refine q d _ nd ne ?_ ?_ (fun b n2 n3 => ?_)
    all_goals (try simp only [upd_same, upd_ne n1, upd_ne ne])
    all_goals first
      | rfl
      | (simp only [upd, if_neg n2, if_neg n3])
theorem ok_TooMany_init (T : Txt K mg) : FnOk P w K mg base CX0 1 T.f_TooMany_init T.fd_TooMany_init ["self", "part"] (spIni T.c_TooMany ["part"]) := by
  refine T.F_TooMany_init.ok sc_TooMany_init (fun vs H Q E h => ?_) (fun cdv A outer s H vs Q E hr h => ?_)
  · obtain ⟨a, vs, rfl, hl, _⟩ := h
    show vs.length + 1 = _
    rw [hl]
    rfl
  · obtain ⟨a, vs, rfl, hl, h1, q⟩ := h
    obtain ⟨v0, rfl⟩ : ∃ v0, vs = [v0] := match vs, hl with | [v0], _ => ⟨_, rfl⟩
    refine ⟨_, pss_one (ps_ost (pv 0) (pv 1)), ?_⟩
    refine ⟨_, rfl, _, rfl, a, T.c_TooMany, rfl, T.ex_TooMany.oex, T.no_TooMany_part, .inl ⟨h1, fun d nd ne => ?_⟩⟩
    have n1 : a ≠ d := ne.symm
    refine q d _ nd ne ?_ ?_ (fun b n2 n3 => ?_)
    all_goals (try simp only [upd_same, upd_ne n1, upd_ne ne])
    all_goals first
      | rfl
      | (simp only [upd, if_neg n2, if_neg n3])
theorem ok_InvalidAddress_init (T : Txt K mg) : FnOk P w K mg base CX0 1 T.f_InvalidAddress_init T.fd_InvalidAddress_init ["self", "address"] (spIni T.c_InvalidAddress ["address"]) := by
  refine T.F_InvalidAddress_init.ok sc_InvalidAddress_init (fun vs H Q E h => ?_) (fun cdv A outer s H vs Q E hr h => ?_)
  · obtain ⟨a, vs, rfl, hl, _⟩ := h
    show vs.length + 1 = _
    rw [hl]
    rfl
  · obtain ⟨a, vs, rfl, hl, h1, q⟩ := h
    obtain ⟨v0, rfl⟩ : ∃ v0, vs = [v0] := match vs, hl with | [v0], _ => ⟨_, rfl⟩
    refine ⟨_, pss_one (ps_ost (pv 0) (pv 1)), ?_⟩
    refine ⟨_, rfl, _, rfl, a, T.c_InvalidAddress, rfl, T.ex_InvalidAddress.oex, T.no_InvalidAddress_address, .inl ⟨h1, fun d nd ne => ?_⟩⟩
    have n1 : a ≠ d := ne.symm
    refine q d _ nd ne ?_ ?_ (fun b n2 n3 => ?_)
    all_goals (try simp only [upd_same, upd_ne n1, upd_ne ne])
    all_goals first
      | rfl
      | (simp only [upd, if_neg n2, if_neg n3])
theorem ok_Locked_init (T : Txt K mg) : FnOk P w K mg base CX0 1 T.f_Locked_init T.fd_Locked_init ["self", "address"] (spIni T.c_Locked ["address"]) := by
  refine T.F_Locked_init.ok sc_Locked_init (fun vs H Q E h => ?_) (fun cdv A outer s H vs Q E hr h => ?_)
  · obtain ⟨a, vs, rfl, hl, _⟩ := h
    show vs.length + 1 = _
    rw [hl]
    rfl
  · obtain ⟨a, vs, rfl, hl, h1, q⟩ := h
    obtain ⟨v0, rfl⟩ : ∃ v0, vs = [v0] := match vs, hl with | [v0], _ => ⟨_, rfl⟩
    refine ⟨_, pss_one (ps_ost (pv 0) (pv 1)), ?_⟩
    refine ⟨_, rfl, _, rfl, a, T.c_Locked, rfl, T.ex_Locked.oex, T.no_Locked_address, .inl ⟨h1, fun d nd ne => ?_⟩⟩
    have n1 : a ≠ d := ne.symm
    refine q d _ nd ne ?_ ?_ (fun b n2 n3 => ?_)
    all_goals (try simp only [upd_same, upd_ne n1, upd_ne ne])
    all_goals first
      | rfl
      | (simp only [upd, if_neg n2, if_neg n3])
theorem ok_Blank_init (T : Txt K mg) : FnOk P w K mg base CX0 1 T.f_Blank_init T.fd_Blank_init ["self", "address"] (spIni T.c_Blank ["address"]) := by
  refine T.F_Blank_init.ok sc_Blank_init (fun vs H Q E h => ?_) (fun cdv A outer s H vs Q E hr h => ?_)
  · obtain ⟨a, vs, rfl, hl, _⟩ := h
    show vs.length + 1 = _
    rw [hl]
    rfl
  · obtain ⟨a, vs, rfl, hl, h1, q⟩ := h
    obtain ⟨v0, rfl⟩ : ∃ v0, vs = [v0] := match vs, hl with | [v0], _ => ⟨_, rfl⟩
    refine ⟨_, pss_one (ps_ost (pv 0) (pv 1)), ?_⟩
    refine ⟨_, rfl, _, rfl, a, T.c_Blank, rfl, T.ex_Blank.oex, T.no_Blank_address, .inl ⟨h1, fun d nd ne => ?_⟩⟩
    have n1 : a ≠ d := ne.symm
    refine q d _ nd ne ?_ ?_ (fun b n2 n3 => ?_)
    all_goals (try simp only [upd_same, upd_ne n1, upd_ne ne])
    all_goals first
      | rfl
      | (simp only [upd, if_neg n2, if_neg n3])
theorem ok_StateClash_init (T : Txt K mg) : FnOk P w K mg base CX0 1 T.f_StateClash_init T.fd_StateClash_init ["self", "name"] (spIni T.c_StateClash ["name"]) := by
  refine T.F_StateClash_init.ok sc_StateClash_init (fun vs H Q E h => ?_) (fun cdv A outer s H vs Q E hr h => ?_)
  · obtain ⟨a, vs, rfl, hl, _⟩ := h
    show vs.length + 1 = _
    rw [hl]
    rfl
  · obtain ⟨a, vs, rfl, hl, h1, q⟩ := h
    obtain ⟨v0, rfl⟩ : ∃ v0, vs = [v0] := match vs, hl with | [v0], _ => ⟨_, rfl⟩
    refine ⟨_, pss_one (ps_ost (pv 0) (pv 1)), ?_⟩
    refine ⟨_, rfl, _, rfl, a, T.c_StateClash, rfl, T.ex_StateClash.oex, T.no_StateClash_name, .inl ⟨h1, fun d nd ne => ?_⟩⟩
    have n1 : a ≠ d := ne.symm
    refine q d _ nd ne ?_ ?_ (fun b n2 n3 => ?_)
    all_goals (try simp only [upd_same, upd_ne n1, upd_ne ne])
    all_goals first
      | rfl
      | (simp only [upd, if_neg n2, if_neg n3])
theorem ok_NoCondition_init (T : Txt K mg) : FnOk P w K mg base CX0 1 T.f_NoCondition_init T.fd_NoCondition_init ["self", "name"] (spIni T.c_NoCondition ["name"]) := by
  refine T.F_NoCondition_init.ok sc_NoCondition_init (fun vs H Q E h => ?_) (fun cdv A outer s H vs Q E hr h => ?_)
  · obtain ⟨a, vs, rfl, hl, _⟩ := h
    show vs.length + 1 = _
    rw [hl]
    rfl
  · obtain ⟨a, vs, rfl, hl, h1, q⟩ := h
    obtain ⟨v0, rfl⟩ : ∃ v0, vs = [v0] := match vs, hl with | [v0], _ => ⟨_, rfl⟩
    refine ⟨_, pss_one (ps_ost (pv 0) (pv 1)), ?_⟩
    refine ⟨_, rfl, _, rfl, a, T.c_NoCondition, rfl, T.ex_NoCondition.oex, T.no_NoCondition_name, .inl ⟨h1, fun d nd ne => ?_⟩⟩
    have n1 : a ≠ d := ne.symm
    refine q d _ nd ne ?_ ?_ (fun b n2 n3 => ?_)
    all_goals (try simp only [upd_same, upd_ne n1, upd_ne ne])
    all_goals first
      | rfl
      | (simp only [upd, if_neg n2, if_neg n3])
theorem ok_NoField_init (T : Txt K mg) : FnOk P w K mg base CX0 1 T.f_NoField_init T.fd_NoField_init ["self", "name"] (spIni T.c_NoField ["name"]) := by
  refine T.F_NoField_init.ok sc_NoField_init (fun vs H Q E h => ?_) (fun cdv A outer s H vs Q E hr h => ?_)
  · obtain ⟨a, vs, rfl, hl, _⟩ := h
    show vs.length + 1 = _
    rw [hl]
    rfl
  · obtain ⟨a, vs, rfl, hl, h1, q⟩ := h
    obtain ⟨v0, rfl⟩ : ∃ v0, vs = [v0] := match vs, hl with | [v0], _ => ⟨_, rfl⟩
    refine ⟨_, pss_one (ps_ost (pv 0) (pv 1)), ?_⟩
    refine ⟨_, rfl, _, rfl, a, T.c_NoField, rfl, T.ex_NoField.oex, T.no_NoField_name, .inl ⟨h1, fun d nd ne => ?_⟩⟩
    have n1 : a ≠ d := ne.symm
    refine q d _ nd ne ?_ ?_ (fun b n2 n3 => ?_)
    all_goals (try simp only [upd_same, upd_ne n1, upd_ne ne])
    all_goals first
      | rfl
      | (simp only [upd, if_neg n2, if_neg n3])
theorem ok_NoKind_init (T : Txt K mg) : FnOk P w K mg base CX0 1 T.f_NoKind_init T.fd_NoKind_init ["self", "name"] (spIni T.c_NoKind ["name"]) := by
  refine T.F_NoKind_init.ok sc_NoKind_init (fun vs H Q E h => ?_) (fun cdv A outer s H vs Q E hr h => ?_)
  · obtain ⟨a, vs, rfl, hl, _⟩ := h
    show vs.length + 1 = _
    rw [hl]
    rfl
  · obtain ⟨a, vs, rfl, hl, h1, q⟩ := h
    obtain ⟨v0, rfl⟩ : ∃ v0, vs = [v0] := match vs, hl with | [v0], _ => ⟨_, rfl⟩
    refine ⟨_, pss_one (ps_ost (pv 0) (pv 1)), ?_⟩
    refine ⟨_, rfl, _, rfl, a, T.c_NoKind, rfl, T.ex_NoKind.oex, T.no_NoKind_name, .inl ⟨h1, fun d nd ne => ?_⟩⟩
    have n1 : a ≠ d := ne.symm
    refine q d _ nd ne ?_ ?_ (fun b n2 n3 => ?_)
    all_goals (try simp only [upd_same, upd_ne n1, upd_ne ne])
    all_goals first
      | rfl
      | (simp only [upd, if_neg n2, if_neg n3])
theorem ok_NoState_init (T : Txt K mg) : FnOk P w K mg base CX0 1 T.f_NoState_init T.fd_NoState_init ["self", "name"] (spIni T.c_NoState ["name"]) := by
  refine T.F_NoState_init.ok sc_NoState_init (fun vs H Q E h => ?_) (fun cdv A outer s H vs Q E hr h => ?_)
  · obtain ⟨a, vs, rfl, hl, _⟩ := h
    show vs.length + 1 = _
    rw [hl]
    rfl
  · obtain ⟨a, vs, rfl, hl, h1, q⟩ := h
    obtain ⟨v0, rfl⟩ : ∃ v0, vs = [v0] := match vs, hl with | [v0], _ => ⟨_, rfl⟩
    refine ⟨_, pss_one (ps_ost (pv 0) (pv 1)), ?_⟩
    refine ⟨_, rfl, _, rfl, a, T.c_NoState, rfl, T.ex_NoState.oex, T.no_NoState_name, .inl ⟨h1, fun d nd ne => ?_⟩⟩
    have n1 : a ≠ d := ne.symm
    refine q d _ nd ne ?_ ?_ (fun b n2 n3 => ?_)
    all_goals (try simp only [upd_same, upd_ne n1, upd_ne ne])
    all_goals first
      | rfl
      | (simp only [upd, if_neg n2, if_neg n3])
theorem ok_Taken_init (T : Txt K mg) : FnOk P w K mg base CX0 1 T.f_Taken_init T.fd_Taken_init ["self", "name"] (spIni T.c_Taken ["name"]) := by
  refine T.F_Taken_init.ok sc_Taken_init (fun vs H Q E h => ?_) (fun cdv A outer s H vs Q E hr h => ?_)
  · obtain ⟨a, vs, rfl, hl, _⟩ := h
    show vs.length + 1 = _
    rw [hl]
    rfl
  · obtain ⟨a, vs, rfl, hl, h1, q⟩ := h
    obtain ⟨v0, rfl⟩ : ∃ v0, vs = [v0] := match vs, hl with | [v0], _ => ⟨_, rfl⟩
    refine ⟨_, pss_one (ps_ost (pv 0) (pv 1)), ?_⟩
    refine ⟨_, rfl, _, rfl, a, T.c_Taken, rfl, T.ex_Taken.oex, T.no_Taken_name, .inl ⟨h1, fun d nd ne => ?_⟩⟩
    have n1 : a ≠ d := ne.symm
    refine q d _ nd ne ?_ ?_ (fun b n2 n3 => ?_)
    all_goals (try simp only [upd_same, upd_ne n1, upd_ne ne])
    all_goals first
      | rfl
      | (simp only [upd, if_neg n2, if_neg n3])
theorem ok_NotPossible_init (T : Txt K mg) : FnOk P w K mg base CX0 1 T.f_NotPossible_init T.fd_NotPossible_init ["self", "row"] (spIni T.c_NotPossible ["row"]) := by
  refine T.F_NotPossible_init.ok sc_NotPossible_init (fun vs H Q E h => ?_) (fun cdv A outer s H vs Q E hr h => ?_)
  · obtain ⟨a, vs, rfl, hl, _⟩ := h
    show vs.length + 1 = _
    rw [hl]
    rfl
  · obtain ⟨a, vs, rfl, hl, h1, q⟩ := h
    obtain ⟨v0, rfl⟩ : ∃ v0, vs = [v0] := match vs, hl with | [v0], _ => ⟨_, rfl⟩
    refine ⟨_, pss_one (ps_ost (pv 0) (pv 1)), ?_⟩
    refine ⟨_, rfl, _, rfl, a, T.c_NotPossible, rfl, T.ex_NotPossible.oex, T.no_NotPossible_row, .inl ⟨h1, fun d nd ne => ?_⟩⟩
    have n1 : a ≠ d := ne.symm
    refine q d _ nd ne ?_ ?_ (fun b n2 n3 => ?_)
    all_goals (try simp only [upd_same, upd_ne n1, upd_ne ne])
    all_goals first
      | rfl
      | (simp only [upd, if_neg n2, if_neg n3])
theorem ok_NoCase_init (T : Txt K mg) : FnOk P w K mg base CX0 1 T.f_NoCase_init T.fd_NoCase_init ["self", "case"] (spIni T.c_NoCase ["case"]) := by
  refine T.F_NoCase_init.ok sc_NoCase_init (fun vs H Q E h => ?_) (fun cdv A outer s H vs Q E hr h => ?_)
  · obtain ⟨a, vs, rfl, hl, _⟩ := h
    show vs.length + 1 = _
    rw [hl]
    rfl
  · obtain ⟨a, vs, rfl, hl, h1, q⟩ := h
    obtain ⟨v0, rfl⟩ : ∃ v0, vs = [v0] := match vs, hl with | [v0], _ => ⟨_, rfl⟩
    refine ⟨_, pss_one (ps_ost (pv 0) (pv 1)), ?_⟩
    refine ⟨_, rfl, _, rfl, a, T.c_NoCase, rfl, T.ex_NoCase.oex, T.no_NoCase_case, .inl ⟨h1, fun d nd ne => ?_⟩⟩
    have n1 : a ≠ d := ne.symm
    refine q d _ nd ne ?_ ?_ (fun b n2 n3 => ?_)
    all_goals (try simp only [upd_same, upd_ne n1, upd_ne ne])
    all_goals first
      | rfl
      | (simp only [upd, if_neg n2, if_neg n3])
theorem ok_WrongCount_init (T : Txt K mg) : FnOk P w K mg base CX0 1 T.f_WrongCount_init T.fd_WrongCount_init ["self", "wanted"] (spIni T.c_WrongCount ["wanted"]) := by
  refine T.F_WrongCount_init.ok sc_WrongCount_init (fun vs H Q E h => ?_) (fun cdv A outer s H vs Q E hr h => ?_)
  · obtain ⟨a, vs, rfl, hl, _⟩ := h
    show vs.length + 1 = _
    rw [hl]
    rfl
  · obtain ⟨a, vs, rfl, hl, h1, q⟩ := h
    obtain ⟨v0, rfl⟩ : ∃ v0, vs = [v0] := match vs, hl with | [v0], _ => ⟨_, rfl⟩
    refine ⟨_, pss_one (ps_ost (pv 0) (pv 1)), ?_⟩
    refine ⟨_, rfl, _, rfl, a, T.c_WrongCount, rfl, T.ex_WrongCount.oex, T.no_WrongCount_wanted, .inl ⟨h1, fun d nd ne => ?_⟩⟩
    have n1 : a ≠ d := ne.symm
    refine q d _ nd ne ?_ ?_ (fun b n2 n3 => ?_)
    all_goals (try simp only [upd_same, upd_ne n1, upd_ne ne])
    all_goals first
      | rfl
      | (simp only [upd, if_neg n2, if_neg n3])
theorem ok_TooLarge_init (T : Txt K mg) : FnOk P w K mg base CX0 1 T.f_TooLarge_init T.fd_TooLarge_init ["self", "limit"] (spIni T.c_TooLarge ["limit"]) := by
  refine T.F_TooLarge_init.ok sc_TooLarge_init (fun vs H Q E h => ?_) (fun cdv A outer s H vs Q E hr h => ?_)
  · obtain ⟨a, vs, rfl, hl, _⟩ := h
    show vs.length + 1 = _
    rw [hl]
    rfl
  · obtain ⟨a, vs, rfl, hl, h1, q⟩ := h
    obtain ⟨v0, rfl⟩ : ∃ v0, vs = [v0] := match vs, hl with | [v0], _ => ⟨_, rfl⟩
    refine ⟨_, pss_one (ps_ost (pv 0) (pv 1)), ?_⟩
    refine ⟨_, rfl, _, rfl, a, T.c_TooLarge, rfl, T.ex_TooLarge.oex, T.no_TooLarge_limit, .inl ⟨h1, fun d nd ne => ?_⟩⟩
    have n1 : a ≠ d := ne.symm
    refine q d _ nd ne ?_ ?_ (fun b n2 n3 => ?_)
    all_goals (try simp only [upd_same, upd_ne n1, upd_ne ne])
    all_goals first
      | rfl
      | (simp only [upd, if_neg n2, if_neg n3])
theorem ok_InvalidText_init (T : Txt K mg) : FnOk P w K mg base CX0 1 T.f_InvalidText_init T.fd_InvalidText_init ["self", "line", "word"] (spIni T.c_InvalidText ["line", "word"]) := by
  refine T.F_InvalidText_init.ok sc_InvalidText_init (fun vs H Q E h => ?_) (fun cdv A outer s H vs Q E hr h => ?_)
  · obtain ⟨a, vs, rfl, hl, _⟩ := h
    show vs.length + 1 = _
    rw [hl]
    rfl
  · obtain ⟨a, vs, rfl, hl, h1, q⟩ := h
    obtain ⟨v0, v1, rfl⟩ : ∃ v0 v1, vs = [v0, v1] := match vs, hl with | [v0, v1], _ => ⟨_, _, rfl⟩
    refine ⟨_, pss_cons (ps_ost (pv 0) (pv 1)) (pss_one (ps_ost (pv 0) (pv 2))), ?_⟩
    refine ⟨_, rfl, _, rfl, a, T.c_InvalidText, rfl, T.ex_InvalidText.oex, T.no_InvalidText_line, .inl ⟨h1, fun d nd ne => ?_⟩⟩
    refine ⟨_, rfl, _, rfl, a, T.c_InvalidText, rfl, T.ex_InvalidText.oex, T.no_InvalidText_word, .inr ⟨d, _, (by first | exact upd_same | (rw [upd_ne ne.symm]; exact upd_same)), (by first | exact upd_same | (rw [upd_ne ne]; exact upd_same)), by simp, ?_⟩⟩
    have n1 : a ≠ d := ne.symm
    refine q d _ nd ne ?_ ?_ (fun b n2 n3 => ?_)
    all_goals (try simp only [upd_same, upd_ne n1, upd_ne ne])
    all_goals first
      | rfl
      | (simp only [upd, if_neg n2, if_neg n3])
theorem ok_FieldClash_init (T : Txt K mg) : FnOk P w K mg base CX0 1 T.f_FieldClash_init T.fd_FieldClash_init ["self", "field", "one", "other"] (spIni T.c_FieldClash ["field", "one", "other"]) := by
  refine T.F_FieldClash_init.ok sc_FieldClash_init (fun vs H Q E h => ?_) (fun cdv A outer s H vs Q E hr h => ?_)
  · obtain ⟨a, vs, rfl, hl, _⟩ := h
    show vs.length + 1 = _
    rw [hl]
    rfl
  · obtain ⟨a, vs, rfl, hl, h1, q⟩ := h
    obtain ⟨v0, v1, v2, rfl⟩ : ∃ v0 v1 v2, vs = [v0, v1, v2] := match vs, hl with | [v0, v1, v2], _ => ⟨_, _, _, rfl⟩
    refine ⟨_, pss_cons (ps_ost (pv 0) (pv 1)) (pss_cons (ps_ost (pv 0) (pv 2)) (pss_one (ps_ost (pv 0) (pv 3)))), ?_⟩
    refine ⟨_, rfl, _, rfl, a, T.c_FieldClash, rfl, T.ex_FieldClash.oex, T.no_FieldClash_field, .inl ⟨h1, fun d nd ne => ?_⟩⟩
    refine ⟨_, rfl, _, rfl, a, T.c_FieldClash, rfl, T.ex_FieldClash.oex, T.no_FieldClash_one, .inr ⟨d, _, (by first | exact upd_same | (rw [upd_ne ne.symm]; exact upd_same)), (by first | exact upd_same | (rw [upd_ne ne]; exact upd_same)), by simp, ?_⟩⟩
    refine ⟨_, rfl, _, rfl, a, T.c_FieldClash, rfl, T.ex_FieldClash.oex, T.no_FieldClash_other, .inr ⟨d, _, (by first | exact upd_same | (rw [upd_ne ne.symm]; exact upd_same)), (by first | exact upd_same | (rw [upd_ne ne]; exact upd_same)), by simp, ?_⟩⟩
    have n1 : a ≠ d := ne.symm
    refine q d _ nd ne ?_ ?_ (fun b n2 n3 => ?_)
    all_goals (try simp only [upd_same, upd_ne n1, upd_ne ne])
    all_goals first
      | rfl
      | (simp only [upd, if_neg n2, if_neg n3])
theorem ok_Clash_init (T : Txt K mg) : FnOk P w K mg base CX0 1 T.f_Clash_init T.fd_Clash_init ["self", "lesser", "name"] (spIni T.c_Clash ["lesser", "name"]) := by
  refine T.F_Clash_init.ok sc_Clash_init (fun vs H Q E h => ?_) (fun cdv A outer s H vs Q E hr h => ?_)
  · obtain ⟨a, vs, rfl, hl, _⟩ := h
    show vs.length + 1 = _
    rw [hl]
    rfl
  · obtain ⟨a, vs, rfl, hl, h1, q⟩ := h
    obtain ⟨v0, v1, rfl⟩ : ∃ v0 v1, vs = [v0, v1] := match vs, hl with | [v0, v1], _ => ⟨_, _, rfl⟩
    refine ⟨_, pss_cons (ps_ost (pv 0) (pv 1)) (pss_one (ps_ost (pv 0) (pv 2))), ?_⟩
    refine ⟨_, rfl, _, rfl, a, T.c_Clash, rfl, T.ex_Clash.oex, T.no_Clash_lesser, .inl ⟨h1, fun d nd ne => ?_⟩⟩
    refine ⟨_, rfl, _, rfl, a, T.c_Clash, rfl, T.ex_Clash.oex, T.no_Clash_name, .inr ⟨d, _, (by first | exact upd_same | (rw [upd_ne ne.symm]; exact upd_same)), (by first | exact upd_same | (rw [upd_ne ne]; exact upd_same)), by simp, ?_⟩⟩
    have n1 : a ≠ d := ne.symm
    refine q d _ nd ne ?_ ?_ (fun b n2 n3 => ?_)
    all_goals (try simp only [upd_same, upd_ne n1, upd_ne ne])
    all_goals first
      | rfl
      | (simp only [upd, if_neg n2, if_neg n3])
theorem ok_NoStates_init (T : Txt K mg) : FnOk P w K mg base CX0 1 T.f_NoStates_init T.fd_NoStates_init ["self"] (spIni0 T.c_NoStates) := by
  refine T.F_NoStates_init.ok sc_NoStates_init (fun vs H Q E h => ?_) (fun cdv A outer s H vs Q E hr h => ?_)
  · obtain ⟨a, rfl, _⟩ := h; rfl
  · obtain ⟨a, rfl, h1, q⟩ := h
    exact ⟨_, pss_one ps_pass, q⟩
theorem ok_NoEntries_init (T : Txt K mg) : FnOk P w K mg base CX0 1 T.f_NoEntries_init T.fd_NoEntries_init ["self"] (spIni0 T.c_NoEntries) := by
  refine T.F_NoEntries_init.ok sc_NoEntries_init (fun vs H Q E h => ?_) (fun cdv A outer s H vs Q E hr h => ?_)
  · obtain ⟨a, rfl, _⟩ := h; rfl
  · obtain ⟨a, rfl, h1, q⟩ := h
    exact ⟨_, pss_one ps_pass, q⟩
theorem ok_NotEnd_init (T : Txt K mg) : FnOk P w K mg base CX0 1 T.f_NotEnd_init T.fd_NotEnd_init ["self"] (spIni0 T.c_NotEnd) := by
  refine T.F_NotEnd_init.ok sc_NotEnd_init (fun vs H Q E h => ?_) (fun cdv A outer s H vs Q E hr h => ?_)
  · obtain ⟨a, rfl, _⟩ := h; rfl
  · obtain ⟨a, rfl, h1, q⟩ := h
    exact ⟨_, pss_one ps_pass, q⟩
theorem ok_NotCarried_init (T : Txt K mg) : FnOk P w K mg base CX0 1 T.f_NotCarried_init T.fd_NotCarried_init ["self"] (spIni0 T.c_NotCarried) := by
  refine T.F_NotCarried_init.ok sc_NotCarried_init (fun vs H Q E h => ?_) (fun cdv A outer s H vs Q E hr h => ?_)
  · obtain ⟨a, rfl, _⟩ := h; rfl
  · obtain ⟨a, rfl, h1, q⟩ := h
    exact ⟨_, pss_one ps_pass, q⟩
theorem ok_Unlike_init (T : Txt K mg) : FnOk P w K mg base CX0 1 T.f_Unlike_init T.fd_Unlike_init ["self"] (spIni0 T.c_Unlike) := by
  refine T.F_Unlike_init.ok sc_Unlike_init (fun vs H Q E h => ?_) (fun cdv A outer s H vs Q E hr h => ?_)
  · obtain ⟨a, rfl, _⟩ := h; rfl
  · obtain ⟨a, rfl, h1, q⟩ := h
    exact ⟨_, pss_one ps_pass, q⟩
theorem ok__law_pen (T : Txt K mg) : FnOk P w K mg base CX0 1 T.f__law_pen T.fd__law_pen ["_law_script"] (spPen K) := by
  have nd := sc__law_pen.nd
  refine T.F__law_pen.ok sc__law_pen (fun vs H Q E h => ?_) (fun cdv A outer s H vs Q E hr h => ?_)
  · obtain ⟨a, ns, rfl, _⟩ := h; rfl
  · obtain ⟨a, ns, rfl, hS, hl, q⟩ := h
    have hu := hu_of hr
    refine ⟨_, (pss_one (ps_ret (pe_lst (pa_cons (pe_callTy call_list_of (by rfl) T.n_list (by decide +kernel) (pa_cons (pe_slice sl_list (pv 0) po_none (po_some pe_int)) pa_nil)) (pa_cons pe_int (pa_cons pe_int pa_nil)))))), ?_⟩
    refine ⟨_, rfl, 60, rfl, a, _, rfl, hS, fun c nc => ?_⟩
    obtain ⟨ms, em, hm⟩ := cut60 ns
    rw [em]
    refine ⟨c, _, rfl, .inl (SqL.of upd_same), fun l nl => ?_⟩
    refine ⟨(by show 3 ≤ sizeLine; decide), fun p np => ?_⟩
    have s1 : Same H (upd H c (.lst (ms.map V.int))) := same_upd nc
    have s2 := s1.trans (same_upd (o := .lst (ms.map V.int)) nl)
    have npl : l ≠ p := ne_of_none upd_same np
    refine q p _ (s2.free np) (s2.trans (same_upd np)) ⟨l, ms, 0, 0, upd_same, by rw [upd_ne npl, upd_same], hm, Nat.zero_le _⟩
theorem ok__law_draw (T : Txt K mg) : FnOk P w K mg base CX0 1 T.f__law_draw T.fd__law_draw ["_law_pen_here", "_law_many"] (spDraw) := by
  have nd := sc__law_draw.nd
  refine T.F__law_draw.ok sc__law_draw (fun vs H Q E h => ?_) (fun cdv A outer s H vs Q E hr h => ?_)
  · obtain ⟨p, m, n, rfl, _⟩ := h; rfl
  · obtain ⟨p, m, n, rfl, ⟨c, ns, i, g, hp, hc, hl, hi⟩, hn, h1, h2, q⟩ := h
    have hu := hu_of hr
    refine ⟨_, (pss_cons (ps_if (pt_cmpR op_gt (pe_ix ix_list (pv 0) pe_int (fun _ _ => rfl)) pe_int (nomark _)) (pss_cons (ps_set (i := 2) nd rfl (Or.inl rfl) (pe_op op_modN (pe_callTy call_int1 (by rfl) T.n_int (by decide +kernel) (pa_cons (pe_ix ix_list (pv 0) pe_int (fun _ _ => rfl)) pa_nil)) (pv 1)))
        (pss_cons (ps_asg (pe_op op_fdivN (pe_ix ix_list (pv 0) pe_int (fun _ _ => rfl)) (pv 1)) (pg_sub (pv 0) pe_int set_list))
        (pss_one (ps_ret (pv 2))))) pss_nil)
        (pss_cons (ps_set (i := 3) nd rfl (Or.inl rfl) (pe_ix ix_list (pv 0) pe_int (fun _ _ => rfl)))
        (pss_cons (ps_asg (pe_op op_add (pv 3) pe_int) (pg_sub (pv 0) pe_int set_list))
        (pss_cons (ps_set (i := 4) nd rfl (Or.inl rfl) (pe_op op_add (pe_op op_mul pe_int (pv 3)) pe_int))
        (pss_cons (ps_if (pt_cmpR (op_neD hr.units) (pe_ix ix_list (pv 0) pe_int (fun _ _ => rfl)) (pe_lst pa_nil) (nomark _)) (pss_one (ps_set (i := 4) nd rfl (Or.inl rfl) (pe_ix ix_list (pe_ix ix_list (pv 0) pe_int (fun _ _ => rfl)) (pe_op op_modN (pe_callTy call_int1 (by rfl) T.n_int (by decide +kernel) (pa_cons (pv 3) pa_nil)) (pe_callB call_len_seq (by rfl) T.n_len (by decide +kernel) (pa_cons (pe_ix ix_list (pv 0) pe_int (fun _ _ => rfl)) pa_nil))) (fun _ _ => rfl)))) pss_nil)
        (pss_cons (ps_if (PW.pt (pw_and (pt_cmpR op_lt (pv 3) (pe_callB call_len_seq (by rfl) T.n_len (by decide +kernel) (pa_cons (pe_ix ix_list (pv 0) pe_int (fun _ _ => rfl)) pa_nil)) (nomark _)) (pw_and1 (pt_cmpR op_ge (pe_callB call_abs (by rfl) T.n_abs (by decide +kernel) (pa_cons (pv 4) pa_nil)) (pe_op op_pow pe_int pe_int) (nomark _))))) (pss_cons (ps_set (i := 5) nd rfl (Or.inl rfl) (pe_op op_add (pe_op op_mul pe_int (pe_op op_sub (pe_callB call_abs (by rfl) T.n_abs (by decide +kernel) (pa_cons (pv 4) pa_nil)) (pe_op op_pow pe_int pe_int))) (pe_callTy call_int1 (by rfl) T.n_int (by decide +kernel) (pa_cons (pe_cmpR op_lt (pv 4) pe_int (nomark _)) pa_nil))))
        (pss_cons (ps_asg (pe_op op_fdivN (pv 5) (pv 1)) (pg_sub (pv 0) pe_int set_list))
        (pss_one (ps_ret (pe_op op_modN (pe_callTy call_int1 (by rfl) T.n_int (by decide +kernel) (pa_cons (pv 5) pa_nil)) (pv 1)))))) pss_nil)
        (pss_cons (ps_set (i := 6) nd rfl (Or.inl rfl) (pe_op op_modN (pe_callTy call_int1 (by rfl) T.n_int (by decide +kernel) (pa_cons (pe_op op_pow (pe_op op_add (pe_op op_add (pe_op op_modN (pe_callTy call_int1 (by rfl) T.n_int (by decide +kernel) (pa_cons (pv 4) pa_nil)) pe_int) (pe_op op_mul pe_int (pv 3))) pe_int) pe_int) pa_nil)) pe_int))
        (pss_cons (ps_set (i := 6) nd rfl (Or.inl rfl) (pe_op op_modN (pe_callTy call_int1 (by rfl) T.n_int (by decide +kernel) (pa_cons (pe_op op_pow (pe_op op_add (pe_op op_add (pe_op op_mul (pv 6) (pe_op op_add (pe_op op_mul pe_int (pv 3)) pe_int)) (pe_op op_mul (pe_op op_mul pe_int (pv 3)) (pv 3))) pe_int) pe_int) pa_nil)) pe_int))
        (pss_one (ps_ret (pe_op op_modN (pe_callTy call_int1 (by rfl) T.n_int (by decide +kernel) (pa_cons (pe_op op_fdivN (pv 6) pe_int) pa_nil)) (pv 1)))))))))))), ?_⟩
    refine ⟨_, rfl, p, _, _, _, rfl, rfl, SqL.of hp, atI_nat (j := 2) rfl, _, _, rfl, rfl, _, rfl, ?_⟩
    refine ite2 (fun hg => ?_) (fun hg => ?_)
    · refine ⟨_, rfl, p, _, _, _, rfl, rfl, SqL.of hp, atI_nat (j := 2) rfl, .inl ⟨_, rfl, _, rfl, _, _, rfl, rfl, (by omega), ?_⟩⟩
      refine ⟨_, rfl, p, _, _, _, rfl, rfl, SqL.of hp, atI_nat (j := 2) rfl, _, rfl, _, _, rfl, rfl, ⟨by omega, by omega⟩, ?_⟩
      refine ⟨_, rfl, p, _, _, _, rfl, rfl, hp, rfl, ?_⟩
      refine ⟨_, rfl, ?_⟩
      exact q _ _ (modN h1).1 (modN h1).2 (Pen.put (i := i) (g := g.fdiv m) hp hc hl (by omega)) keep_upd
    · refine ⟨_, rfl, p, _, _, _, rfl, rfl, SqL.of hp, atI_nat (j := 1) rfl, ?_⟩
      have n1 := cells_ne hc hp
      have hc1 : (upd H p (.lst [.ref c, .int ((i : Int) + 1), .int g])) c = some (.lst (ns.map V.int)) := by
        rw [upd_ne n1]
        exact hc
      refine ⟨_, rfl, _, _, rfl, rfl, _, rfl, p, _, _, _, rfl, rfl, hp, rfl, ?_⟩
      have k1 : Keep p H (upd H p (.lst [.ref c, .int ((i : Int) + 1), .int g])) := keep_upd
      show tSeq _ _ _ _ (upd H p (.lst [.ref c, .int ((i : Int) + 1), .int g]))
      generalize hH1 : upd H p (.lst [.ref c, .int ((i : Int) + 1), .int g]) = H1 at *
      have hp1 : H1 p = some (.lst [.ref c, .int ((i : Int) + 1), .int g]) := by rw [← hH1]; exact upd_same
      refine ⟨_, rfl, _, _, rfl, rfl, .inl ⟨by decide, by decide⟩, _, _, rfl, rfl, ?_⟩
      -- if the cells are not empty
      refine ⟨_, rfl, p, _, _, _, rfl, rfl, SqL.of hp1, atI_nat (j := 0) rfl, ?_⟩
      refine ⟨Nat.zero_le _, fun e he => ?_⟩
      have s2 : Same H1 (upd H1 e (.lst [])) := same_upd he
      refine ⟨.list (ns.map PyData.int), .list [], .lst (SqL.of (s2 _ _ hc1)) (dp_ints ns), .lst (SqL.of upd_same) .nil, shaped_ints ns, rfl, _, rfl, ?_⟩
      rw [eqv_ints_nil]
      have hp2 := s2 _ _ hp1
      have hc2 := s2 _ _ hc1
      have k2 := k1.trans (same_keep s2)
      generalize upd H1 e (.lst []) = H2 at *
      by_cases hns : ns = []
      · have ez : ns.isEmpty = true := by
          rw [hns]
          rfl
        rw [ez]
        refine iteF ?_
        refine ⟨_, rfl, _, rfl, p, _, _, _, rfl, rfl, SqL.of hp2, atI_nat (j := 0) rfl, c, _, rfl, .inl (SqL.of hc2), _, _, rfl, rfl, _, rfl, ?_⟩
        refine ite2 (fun ha => ?_) (fun ha => ?_)
        · refine ⟨_, rfl, _, rfl, _, _, rfl, rfl, ⟨by decide, by decide, by decide⟩, _, _, rfl, rfl, _, rfl, ?_⟩
          refine ite2 (fun hb => ?_) (fun hb => ?_)
          · refine ⟨_, rfl, _, rfl, _, _, rfl, rfl, ⟨by decide, by decide, by decide⟩, _, _, rfl, rfl, _, _, rfl, rfl, .inl ⟨by decide, by decide⟩, _, rfl, _, _, rfl, rfl, .inr ⟨_, rfl, _, _, rfl, rfl, ?_⟩⟩
            refine ⟨_, rfl, _, rfl, _, _, rfl, rfl, ⟨by omega, by omega⟩, _, rfl, p, _, _, _, rfl, rfl, hp2, rfl, ?_⟩
            refine ⟨_, rfl, .inl ⟨_, rfl, _, rfl, _, _, rfl, rfl, by omega, ?_⟩⟩
            exact q _ _ (modN h1).1 (modN h1).2 (Pen.put (i := i + 1) hp2 hc2 hl (by omega)) (k2.trans keep_upd)
          · have hi0 : (0 : Int) ≤ (i : Int) ∧ (i : Int) ≤ 100000 := ⟨by omega, by omega⟩
            refine ⟨_, rfl, .inl ⟨_, rfl, _, _, rfl, rfl, (by show (_ : Int) ≠ 0; decide), _, rfl, _, _, rfl, rfl, .inl ⟨by decide, by decide⟩, _, _, rfl, rfl, _, _, rfl, rfl, _, _, rfl, rfl, ⟨by decide, by decide, ?_⟩, .inl ⟨_, rfl, _, _, rfl, rfl, (by show (_ : Int) ≠ 0; decide), ?_⟩⟩⟩
            · exact bnd1 (modN (by decide)).1 (Int.lt_trans (modN (by decide)).2 (by decide)) hi0.1 hi0.2 (by decide) (by decide) (by decide) (by decide)
            · dsimp only
              generalize hmix : (Int.fmod _ 2147483647) = mix
              have hm0 : 0 ≤ mix ∧ mix < 2147483648 := by
                rw [← hmix]
                exact ⟨(modN (by decide)).1, Int.lt_trans (modN (by decide)).2 (by decide)⟩
              refine ⟨_, rfl, _, rfl, _, _, rfl, rfl, .inl ⟨by decide, by decide⟩, _, _, rfl, rfl, _, _, rfl, rfl, .inl ⟨by omega, by omega⟩, _, rfl, _, _, rfl, rfl, .inl ⟨by decide, by decide⟩, _, rfl, _, _, rfl, rfl, .inr ⟨by omega, by omega⟩, _, _, rfl, rfl, _, _, rfl, rfl, _, _, rfl, rfl, ⟨by decide, by decide, ?_⟩, .inl ⟨_, rfl, _, _, rfl, rfl, (by show (_ : Int) ≠ 0; decide), ?_⟩⟩
              · exact bnd2 hm0.1 hm0.2 hi0.1 hi0.2 (by decide) (by decide) (by decide) (by decide) (by decide) (by decide)
              · refine ⟨_, rfl, _, _, rfl, rfl, ⟨by decide, by decide⟩, .inl ⟨_, rfl, _, rfl, _, _, rfl, rfl, by omega, ?_⟩⟩
                exact q _ _ (modN h1).1 (modN h1).2 ⟨c, ns, i + 1, g, hp2, hc2, hl, by omega⟩ k2
        · have hi0 : (0 : Int) ≤ (i : Int) ∧ (i : Int) ≤ 100000 := ⟨by omega, by omega⟩
          refine ⟨_, rfl, .inl ⟨_, rfl, _, _, rfl, rfl, (by show (_ : Int) ≠ 0; decide), _, rfl, _, _, rfl, rfl, .inl ⟨by decide, by decide⟩, _, _, rfl, rfl, _, _, rfl, rfl, _, _, rfl, rfl, ⟨by decide, by decide, ?_⟩, .inl ⟨_, rfl, _, _, rfl, rfl, (by show (_ : Int) ≠ 0; decide), ?_⟩⟩⟩
          · exact bnd1 (modN (by decide)).1 (Int.lt_trans (modN (by decide)).2 (by decide)) hi0.1 hi0.2 (by decide) (by decide) (by decide) (by decide)
          · dsimp only
            generalize hmix : (Int.fmod _ 2147483647) = mix
            have hm0 : 0 ≤ mix ∧ mix < 2147483648 := by
              rw [← hmix]
              exact ⟨(modN (by decide)).1, Int.lt_trans (modN (by decide)).2 (by decide)⟩
            refine ⟨_, rfl, _, rfl, _, _, rfl, rfl, .inl ⟨by decide, by decide⟩, _, _, rfl, rfl, _, _, rfl, rfl, .inl ⟨by omega, by omega⟩, _, rfl, _, _, rfl, rfl, .inl ⟨by decide, by decide⟩, _, rfl, _, _, rfl, rfl, .inr ⟨by omega, by omega⟩, _, _, rfl, rfl, _, _, rfl, rfl, _, _, rfl, rfl, ⟨by decide, by decide, ?_⟩, .inl ⟨_, rfl, _, _, rfl, rfl, (by show (_ : Int) ≠ 0; decide), ?_⟩⟩
            · exact bnd2 hm0.1 hm0.2 hi0.1 hi0.2 (by decide) (by decide) (by decide) (by decide) (by decide) (by decide)
            · refine ⟨_, rfl, _, _, rfl, rfl, ⟨by decide, by decide⟩, .inl ⟨_, rfl, _, rfl, _, _, rfl, rfl, by omega, ?_⟩⟩
              exact q _ _ (modN h1).1 (modN h1).2 ⟨c, ns, i + 1, g, hp2, hc2, hl, by omega⟩ k2
      · have ez : ns.isEmpty = false := by
          cases ns with
          | nil => exact absurd rfl hns
          | cons x r => rfl
        rw [ez]
        refine iteT ?_
        have hz : 0 < ns.length := List.length_pos_iff.mpr hns
        have hj : ((i : Int).fmod (ns.map V.int).length) = (((i % ns.length : Nat) : Nat) : Int) := by
          rw [Int.fmod_eq_emod_of_nonneg _ (by omega), List.length_map]
          rfl
        obtain ⟨z, ezz⟩ := map_int_at (ns := ns) (j := i % ns.length) (Nat.mod_lt _ hz)
        refine ⟨_, rfl, p, _, _, _, rfl, rfl, SqL.of hp2, atI_nat (j := 0) rfl, ?_⟩
        refine ⟨_, rfl, .inl ⟨_, rfl, _, rfl, p, _, _, _, rfl, rfl, SqL.of hp2, atI_nat (j := 0) rfl, c, _, rfl, .inl (SqL.of hc2), _, _, rfl, rfl, ?_, ?_⟩⟩
        · rw [List.length_map]; omega
        · refine ⟨c, _, _, .int z, rfl, rfl, SqL.of hc2, ?_, ?_⟩
          · rw [hj]
            exact atI_nat ezz
          · refine ⟨_, rfl, _, rfl, p, _, _, _, rfl, rfl, SqL.of hp2, atI_nat (j := 0) rfl, c, _, rfl, .inl (SqL.of hc2), _, _, rfl, rfl, _, rfl, ?_⟩
            refine ite2 (fun ha => ?_) (fun ha => ?_)
            · refine ⟨_, rfl, _, rfl, _, _, rfl, rfl, ⟨by decide, by decide, by decide⟩, _, _, rfl, rfl, _, rfl, ?_⟩
              refine ite2 (fun hb => ?_) (fun hb => ?_)
              · refine ⟨_, rfl, _, rfl, _, _, rfl, rfl, ⟨by decide, by decide, by decide⟩, _, _, rfl, rfl, _, _, rfl, rfl, .inl ⟨by decide, by decide⟩, _, rfl, _, _, rfl, rfl, .inr ⟨_, rfl, _, _, rfl, rfl, ?_⟩⟩
                refine ⟨_, rfl, _, rfl, _, _, rfl, rfl, ⟨by omega, by omega⟩, _, rfl, p, _, _, _, rfl, rfl, hp2, rfl, ?_⟩
                refine ⟨_, rfl, .inl ⟨_, rfl, _, rfl, _, _, rfl, rfl, by omega, ?_⟩⟩
                exact q _ _ (modN h1).1 (modN h1).2 (Pen.put (i := i + 1) hp2 hc2 hl (by omega)) (k2.trans keep_upd)
              · have hi0 : (0 : Int) ≤ (i : Int) ∧ (i : Int) ≤ 100000 := ⟨by omega, by omega⟩
                refine ⟨_, rfl, .inl ⟨_, rfl, _, _, rfl, rfl, (by show (_ : Int) ≠ 0; decide), _, rfl, _, _, rfl, rfl, .inl ⟨by decide, by decide⟩, _, _, rfl, rfl, _, _, rfl, rfl, _, _, rfl, rfl, ⟨by decide, by decide, ?_⟩, .inl ⟨_, rfl, _, _, rfl, rfl, (by show (_ : Int) ≠ 0; decide), ?_⟩⟩⟩
                · exact bnd1 (modN (by decide)).1 (Int.lt_trans (modN (by decide)).2 (by decide)) hi0.1 hi0.2 (by decide) (by decide) (by decide) (by decide)
                · dsimp only
                  generalize hmix : (Int.fmod _ 2147483647) = mix
                  have hm0 : 0 ≤ mix ∧ mix < 2147483648 := by
                    rw [← hmix]
                    exact ⟨(modN (by decide)).1, Int.lt_trans (modN (by decide)).2 (by decide)⟩
                  refine ⟨_, rfl, _, rfl, _, _, rfl, rfl, .inl ⟨by decide, by decide⟩, _, _, rfl, rfl, _, _, rfl, rfl, .inl ⟨by omega, by omega⟩, _, rfl, _, _, rfl, rfl, .inl ⟨by decide, by decide⟩, _, rfl, _, _, rfl, rfl, .inr ⟨by omega, by omega⟩, _, _, rfl, rfl, _, _, rfl, rfl, _, _, rfl, rfl, ⟨by decide, by decide, ?_⟩, .inl ⟨_, rfl, _, _, rfl, rfl, (by show (_ : Int) ≠ 0; decide), ?_⟩⟩
                  · exact bnd2 hm0.1 hm0.2 hi0.1 hi0.2 (by decide) (by decide) (by decide) (by decide) (by decide) (by decide)
                  · refine ⟨_, rfl, _, _, rfl, rfl, ⟨by decide, by decide⟩, .inl ⟨_, rfl, _, rfl, _, _, rfl, rfl, by omega, ?_⟩⟩
                    exact q _ _ (modN h1).1 (modN h1).2 ⟨c, ns, i + 1, g, hp2, hc2, hl, by omega⟩ k2
            · have hi0 : (0 : Int) ≤ (i : Int) ∧ (i : Int) ≤ 100000 := ⟨by omega, by omega⟩
              refine ⟨_, rfl, .inl ⟨_, rfl, _, _, rfl, rfl, (by show (_ : Int) ≠ 0; decide), _, rfl, _, _, rfl, rfl, .inl ⟨by decide, by decide⟩, _, _, rfl, rfl, _, _, rfl, rfl, _, _, rfl, rfl, ⟨by decide, by decide, ?_⟩, .inl ⟨_, rfl, _, _, rfl, rfl, (by show (_ : Int) ≠ 0; decide), ?_⟩⟩⟩
              · exact bnd1 (modN (by decide)).1 (Int.lt_trans (modN (by decide)).2 (by decide)) hi0.1 hi0.2 (by decide) (by decide) (by decide) (by decide)
              · dsimp only
                generalize hmix : (Int.fmod _ 2147483647) = mix
                have hm0 : 0 ≤ mix ∧ mix < 2147483648 := by
                  rw [← hmix]
                  exact ⟨(modN (by decide)).1, Int.lt_trans (modN (by decide)).2 (by decide)⟩
                refine ⟨_, rfl, _, rfl, _, _, rfl, rfl, .inl ⟨by decide, by decide⟩, _, _, rfl, rfl, _, _, rfl, rfl, .inl ⟨by omega, by omega⟩, _, rfl, _, _, rfl, rfl, .inl ⟨by decide, by decide⟩, _, rfl, _, _, rfl, rfl, .inr ⟨by omega, by omega⟩, _, _, rfl, rfl, _, _, rfl, rfl, _, _, rfl, rfl, ⟨by decide, by decide, ?_⟩, .inl ⟨_, rfl, _, _, rfl, rfl, (by show (_ : Int) ≠ 0; decide), ?_⟩⟩
                · exact bnd2 hm0.1 hm0.2 hi0.1 hi0.2 (by decide) (by decide) (by decide) (by decide) (by decide) (by decide)
                · refine ⟨_, rfl, _, _, rfl, rfl, ⟨by decide, by decide⟩, .inl ⟨_, rfl, _, rfl, _, _, rfl, rfl, by omega, ?_⟩⟩
                  exact q _ _ (modN h1).1 (modN h1).2 ⟨c, ns, i + 1, g, hp2, hc2, hl, by omega⟩ k2
theorem ok__law_pick (T : Txt K mg) : FnOk P w K mg base CX0 2 T.f__law_pick T.fd__law_pick ["_law_pen_here", "_law_some"] (spPick K) := by
  have G__law_draw := ok__law_draw (P := P) (w := w) (base := base) T
  have nd := sc__law_pick.nd
  refine T.F__law_pick.ok sc__law_pick (fun vs H Q E h => ?_) (fun cdv A outer s H vs Q E hr h => ?_)
  · obtain ⟨p, a, xs, n, rfl, _⟩ := h; rfl
  · obtain ⟨p, a, xs, n, rfl, ne, P0, hn, hS, h1, h2, q⟩ := h
    have hu := hu_of hr
    refine ⟨_, (pss_one (ps_ret (pe_ix ix_list (pv 1) (pe_call (G__law_draw) (hr.mono (by decide)) (by rfl) T.m__law_draw T.F__law_draw.kp T.b__law_draw .nil pass0 (pa_cons (pv 0) (pa_cons (pe_callB call_len_seq (by rfl) T.n_len (by decide +kernel) (pa_cons (pv 1) pa_nil)) pa_nil))) (fun _ _ => rfl)))), ?_⟩
    refine ⟨_, rfl, _, rfl, _, rfl, a, _, rfl, .inl hS, p, _, n, rfl, P0, hn, by omega, by omega, fun r H' r0 r1 P1 k1 => ?_⟩
    obtain ⟨j, rfl⟩ : ∃ j : Nat, r = (j : Int) := ⟨r.toNat, by omega⟩
    have hj : j < xs.length := by omega
    refine ⟨a, xs, _, xs[j], rfl, rfl, SqL.keep k1 ne hS, atI_nat (List.getElem?_eq_getElem hj), ?_⟩
    exact q _ _ (List.getElem_mem hj) P1 k1
theorem ok__law_thing (T : Txt K mg) : FnOk P w K mg base CX0 3 T.f__law_thing T.fd__law_thing ["_law_pen_here"] (spThing K) := by
  have G__law_draw := ok__law_draw (P := P) (w := w) (base := base) T
  have G__law_pick := ok__law_pick (P := P) (w := w) (base := base) T
  have nd := sc__law_thing.nd
  refine T.F__law_thing.ok sc__law_thing (fun vs H Q E h => ?_) (fun cdv A outer s H vs Q E hr h => ?_)
  · obtain ⟨p, n, rfl, _⟩ := h; rfl
  · obtain ⟨p, n, rfl, P0, hn, q⟩ := h
    have hu := hu_of hr
    refine ⟨_, (pss_cons (ps_set (i := 1) nd rfl (Or.inl rfl) (pe_call (G__law_draw) (hr.mono (by decide)) (by rfl) T.m__law_draw T.F__law_draw.kp T.b__law_draw .nil pass0 (pa_cons (pv 0) (pa_cons (pe_op op_pow pe_int pe_int) pa_nil))))
        (pss_cons (ps_set (i := 2) nd rfl (Or.inl rfl) (pe_lst (pa_cons (pv 1) (pa_cons (pe_op op_sub pe_int (pv 1)) (pa_cons pe_non (pa_cons pe_bl (pa_cons pe_bl (pa_cons pe_str (pa_cons pe_str (pa_cons pe_str (pa_cons (pe_tup pa_nil) (pa_cons (pe_tup (pa_cons (pv 1) (pa_cons pe_str pa_nil))) (pa_cons (pe_lst (pa_cons (pv 1) pa_nil)) (pa_cons pe_dnewK pa_nil))))))))))))))
        (pss_one (ps_ret (pe_call (G__law_pick) (hr.mono (by decide)) (by rfl) T.m__law_pick T.F__law_pick.kp T.b__law_pick .nil pass0 (pa_cons (pv 0) (pa_cons (pe_op op_cat (pv 2) (pe_lst (pa_cons (pe_disp (pps_cons pe_str (pv 1) pps_nil) (by rfl) (by rfl) (fun z => by cases z) (by decide)) (pa_cons (pe_lst (pa_cons (pe_lst (pa_cons (pv 1) pa_nil)) (pa_cons pe_str pa_nil))) (pa_cons (pe_tup (pa_cons (pe_tup pa_nil) (pa_cons (pe_tup (pa_cons pe_str (pa_cons pe_str pa_nil))) pa_nil))) (pa_cons (pe_op op_pow pe_int pe_int) pa_nil)))))) pa_nil))))))), ?_⟩
    refine ⟨_, rfl, _, _, rfl, rfl, ⟨by decide, by decide, by decide⟩, p, _, n, rfl, P0, by omega, by decide +kernel, by decide +kernel, fun r H1 r0 r1 P1 kk => ?_⟩
    have r1 : r < 10000000 := Int.lt_of_lt_of_le r1 (by decide +kernel)
    have sr : r.natAbs < 10 ^ 12 := by omega
    have sn : (0 - r).natAbs < 10 ^ 12 := by omega
    have tn : Sm 0 13 (.int r) := sm_int sr
    refine ⟨_, rfl, _, rfl, _, _, rfl, rfl, line_of (by decide), fun a1 n1 => ?_⟩
    have S_a1 : Same H1 (upd H1 a1 (.tup [])) := same_upd n1
    have E_a1 : (upd H1 a1 (.tup [])) a1 = some (.tup []) := upd_same
    have N_a1 : a1 ≠ p := P1.ne n1
    have P_a1 := P1.same S_a1
    generalize upd H1 a1 (.tup []) = H_a1 at *
    have kk := kk.trans (same_keep S_a1)
    refine ⟨_, rfl, line_of (by simp), fun a2 n2 => ?_⟩
    have S_a2 : Same H_a1 (upd H_a1 a2 (.tup [.int r, .str "a"])) := same_upd n2
    have E_a2 : (upd H_a1 a2 (.tup [.int r, .str "a"])) a2 = some (.tup [.int r, .str "a"]) := upd_same
    have N_a2 : a2 ≠ p := P_a1.ne n2
    have P_a2 := P_a1.same S_a2
    generalize upd H_a1 a2 (.tup [.int r, .str "a"]) = H_a2 at *
    have E_a1 := S_a2 _ _ E_a1
    have kk := kk.trans (same_keep S_a2)
    refine ⟨_, rfl, line_of (by simp), fun a3 n3 => ?_⟩
    have S_a3 : Same H_a2 (upd H_a2 a3 (.lst [.int r])) := same_upd n3
    have E_a3 : (upd H_a2 a3 (.lst [.int r])) a3 = some (.lst [.int r]) := upd_same
    have N_a3 : a3 ≠ p := P_a2.ne n3
    have P_a3 := P_a2.same S_a3
    generalize upd H_a2 a3 (.lst [.int r]) = H_a3 at *
    have E_a1 := S_a3 _ _ E_a1
    have E_a2 := S_a3 _ _ E_a2
    have kk := kk.trans (same_keep S_a3)
    refine fun a4 n4 => ?_
    have S_a4 : Same H_a3 (upd H_a3 a4 (.dK [])) := same_upd n4
    have E_a4 : (upd H_a3 a4 (.dK [])) a4 = some (.dK []) := upd_same
    have N_a4 : a4 ≠ p := P_a3.ne n4
    have P_a4 := P_a3.same S_a4
    generalize upd H_a3 a4 (.dK []) = H_a4 at *
    have E_a1 := S_a4 _ _ E_a1
    have E_a2 := S_a4 _ _ E_a2
    have E_a3 := S_a4 _ _ E_a3
    have kk := kk.trans (same_keep S_a4)
    refine ⟨line_of (by simp), fun m nm => ?_⟩
    have S_m : Same H_a4 (upd H_a4 m (.lst [.int r, .int (0 - r), .non, .bl true, .bl false, .str "", .str "word", .str "two words", .ref a1, .ref a2, .ref a3, .ref a4])) := same_upd nm
    have E_m : (upd H_a4 m (.lst [.int r, .int (0 - r), .non, .bl true, .bl false, .str "", .str "word", .str "two words", .ref a1, .ref a2, .ref a3, .ref a4])) m = some (.lst [.int r, .int (0 - r), .non, .bl true, .bl false, .str "", .str "word", .str "two words", .ref a1, .ref a2, .ref a3, .ref a4]) := upd_same
    have N_m : m ≠ p := P_a4.ne nm
    have P_m := P_a4.same S_m
    generalize upd H_a4 m (.lst [.int r, .int (0 - r), .non, .bl true, .bl false, .str "", .str "word", .str "two words", .ref a1, .ref a2, .ref a3, .ref a4]) = H_m at *
    have E_a1 := S_m _ _ E_a1
    have E_a2 := S_m _ _ E_a2
    have E_a3 := S_m _ _ E_a3
    have E_a4 := S_m _ _ E_a4
    have kk := kk.trans (same_keep S_m)
    refine ⟨_, rfl, _, rfl, fun b1 m1 => ?_⟩
    refine ⟨_, rfl, upd_same, [(Sum.inr "a", .int r)], rfl, by simp, ?_⟩
    rw [upd_upd]
    have S_b1 : Same H_m (upd H_m b1 (.dK (mergeK [] [(Sum.inr "a", V.int r)]))) := same_upd m1
    have E_b1 : (upd H_m b1 (.dK (mergeK [] [(Sum.inr "a", V.int r)]))) b1 = some (.dK (mergeK [] [(Sum.inr "a", V.int r)])) := upd_same
    have N_b1 : b1 ≠ p := P_m.ne m1
    have P_b1 := P_m.same S_b1
    generalize upd H_m b1 (.dK (mergeK [] [(Sum.inr "a", V.int r)])) = H_b1 at *
    have E_a1 := S_b1 _ _ E_a1
    have E_a2 := S_b1 _ _ E_a2
    have E_a3 := S_b1 _ _ E_a3
    have E_a4 := S_b1 _ _ E_a4
    have E_m := S_b1 _ _ E_m
    have kk := kk.trans (same_keep S_b1)
    refine ⟨_, rfl, line_of (by simp), fun b2 m2 => ?_⟩
    have S_b2 : Same H_b1 (upd H_b1 b2 (.lst [.int r])) := same_upd m2
    have E_b2 : (upd H_b1 b2 (.lst [.int r])) b2 = some (.lst [.int r]) := upd_same
    have N_b2 : b2 ≠ p := P_b1.ne m2
    have P_b2 := P_b1.same S_b2
    generalize upd H_b1 b2 (.lst [.int r]) = H_b2 at *
    have E_a1 := S_b2 _ _ E_a1
    have E_a2 := S_b2 _ _ E_a2
    have E_a3 := S_b2 _ _ E_a3
    have E_a4 := S_b2 _ _ E_a4
    have E_m := S_b2 _ _ E_m
    have E_b1 := S_b2 _ _ E_b1
    have kk := kk.trans (same_keep S_b2)
    refine ⟨line_of (by simp), fun b3 m3 => ?_⟩
    have S_b3 : Same H_b2 (upd H_b2 b3 (.lst [.ref b2, .str "x"])) := same_upd m3
    have E_b3 : (upd H_b2 b3 (.lst [.ref b2, .str "x"])) b3 = some (.lst [.ref b2, .str "x"]) := upd_same
    have N_b3 : b3 ≠ p := P_b2.ne m3
    have P_b3 := P_b2.same S_b3
    generalize upd H_b2 b3 (.lst [.ref b2, .str "x"]) = H_b3 at *
    have E_a1 := S_b3 _ _ E_a1
    have E_a2 := S_b3 _ _ E_a2
    have E_a3 := S_b3 _ _ E_a3
    have E_a4 := S_b3 _ _ E_a4
    have E_m := S_b3 _ _ E_m
    have E_b1 := S_b3 _ _ E_b1
    have E_b2 := S_b3 _ _ E_b2
    have kk := kk.trans (same_keep S_b3)
    refine ⟨line_of (by decide), fun b4 m4 => ?_⟩
    have S_b4 : Same H_b3 (upd H_b3 b4 (.tup [])) := same_upd m4
    have E_b4 : (upd H_b3 b4 (.tup [])) b4 = some (.tup []) := upd_same
    have N_b4 : b4 ≠ p := P_b3.ne m4
    have P_b4 := P_b3.same S_b4
    generalize upd H_b3 b4 (.tup []) = H_b4 at *
    have E_a1 := S_b4 _ _ E_a1
    have E_a2 := S_b4 _ _ E_a2
    have E_a3 := S_b4 _ _ E_a3
    have E_a4 := S_b4 _ _ E_a4
    have E_m := S_b4 _ _ E_m
    have E_b1 := S_b4 _ _ E_b1
    have E_b2 := S_b4 _ _ E_b2
    have E_b3 := S_b4 _ _ E_b3
    have kk := kk.trans (same_keep S_b4)
    refine ⟨line_of (by decide), fun b5 m5 => ?_⟩
    have S_b5 : Same H_b4 (upd H_b4 b5 (.tup [.str "a", .str "b"])) := same_upd m5
    have E_b5 : (upd H_b4 b5 (.tup [.str "a", .str "b"])) b5 = some (.tup [.str "a", .str "b"]) := upd_same
    have N_b5 : b5 ≠ p := P_b4.ne m5
    have P_b5 := P_b4.same S_b5
    generalize upd H_b4 b5 (.tup [.str "a", .str "b"]) = H_b5 at *
    have E_a1 := S_b5 _ _ E_a1
    have E_a2 := S_b5 _ _ E_a2
    have E_a3 := S_b5 _ _ E_a3
    have E_a4 := S_b5 _ _ E_a4
    have E_m := S_b5 _ _ E_m
    have E_b1 := S_b5 _ _ E_b1
    have E_b2 := S_b5 _ _ E_b2
    have E_b3 := S_b5 _ _ E_b3
    have E_b4 := S_b5 _ _ E_b4
    have kk := kk.trans (same_keep S_b5)
    refine ⟨line_of (by simp), fun b6 m6 => ?_⟩
    have S_b6 : Same H_b5 (upd H_b5 b6 (.tup [.ref b4, .ref b5])) := same_upd m6
    have E_b6 : (upd H_b5 b6 (.tup [.ref b4, .ref b5])) b6 = some (.tup [.ref b4, .ref b5]) := upd_same
    have N_b6 : b6 ≠ p := P_b5.ne m6
    have P_b6 := P_b5.same S_b6
    generalize upd H_b5 b6 (.tup [.ref b4, .ref b5]) = H_b6 at *
    have E_a1 := S_b6 _ _ E_a1
    have E_a2 := S_b6 _ _ E_a2
    have E_a3 := S_b6 _ _ E_a3
    have E_a4 := S_b6 _ _ E_a4
    have E_m := S_b6 _ _ E_m
    have E_b1 := S_b6 _ _ E_b1
    have E_b2 := S_b6 _ _ E_b2
    have E_b3 := S_b6 _ _ E_b3
    have E_b4 := S_b6 _ _ E_b4
    have E_b5 := S_b6 _ _ E_b5
    have kk := kk.trans (same_keep S_b6)
    refine ⟨_, _, rfl, rfl, ⟨by decide, by decide, by decide⟩, line_of (by simp), fun b7 m7 => ?_⟩
    have S_b7 : Same H_b6 (upd H_b6 b7 (.lst [.ref b1, .ref b3, .ref b6, .int ((10 : Int) ^ Int.toNat 59)])) := same_upd m7
    have E_b7 : (upd H_b6 b7 (.lst [.ref b1, .ref b3, .ref b6, .int ((10 : Int) ^ Int.toNat 59)])) b7 = some (.lst [.ref b1, .ref b3, .ref b6, .int ((10 : Int) ^ Int.toNat 59)]) := upd_same
    have N_b7 : b7 ≠ p := P_b6.ne m7
    have P_b7 := P_b6.same S_b7
    generalize upd H_b6 b7 (.lst [.ref b1, .ref b3, .ref b6, .int ((10 : Int) ^ Int.toNat 59)]) = H_b7 at *
    have E_a1 := S_b7 _ _ E_a1
    have E_a2 := S_b7 _ _ E_a2
    have E_a3 := S_b7 _ _ E_a3
    have E_a4 := S_b7 _ _ E_a4
    have E_m := S_b7 _ _ E_m
    have E_b1 := S_b7 _ _ E_b1
    have E_b2 := S_b7 _ _ E_b2
    have E_b3 := S_b7 _ _ E_b3
    have E_b4 := S_b7 _ _ E_b4
    have E_b5 := S_b7 _ _ E_b5
    have E_b6 := S_b7 _ _ E_b6
    have kk := kk.trans (same_keep S_b7)
    refine ⟨m, b7, _, _, rfl, rfl, E_m, E_b7, line_of (by simp), fun b8 m8 => ?_⟩
    have fin : ∀ v d, Sm 10 200 d → (∀ H', Keep p H_b7 H' → ShowAt K H' v d) → ∃ d, Th K p H_b7 v d := fun v d h1 h2 => ⟨d, h1, h2⟩
    have all := allX_app (P := fun v => ∃ d, Th K p H_b7 v d) (allX_cons (fin (.int r) _ (tn.up (by decide) (by decide)) (fun H' k => .inl (.int _))) (allX_cons (fin (.int (0 - r)) _ ((sm_int sn).up (by decide) (by decide)) (fun H' k => .inl (.int _))) (allX_cons (fin .non _ ((⟨by decide +kernel, by decide +kernel, by decide +kernel⟩ : Sm 10 200 .none)) (fun H' k => .inl .non)) (allX_cons (fin (.bl true) _ ((⟨by decide +kernel, by decide +kernel, by decide +kernel⟩ : Sm 10 200 (.bool true))) (fun H' k => .inl (.bl true))) (allX_cons (fin (.bl false) _ ((⟨by decide +kernel, by decide +kernel, by decide +kernel⟩ : Sm 10 200 (.bool false))) (fun H' k => .inl (.bl false))) (allX_cons (fin (.str "") _ ((⟨by decide +kernel, by decide +kernel, by decide +kernel⟩ : Sm 10 200 (.str ""))) (fun H' k => .inl (.str ""))) (allX_cons (fin (.str "word") _ ((⟨by decide +kernel, by decide +kernel, by decide +kernel⟩ : Sm 10 200 (.str "word"))) (fun H' k => .inl (.str "word"))) (allX_cons (fin (.str "two words") _ ((⟨by decide +kernel, by decide +kernel, by decide +kernel⟩ : Sm 10 200 (.str "two words"))) (fun H' k => .inl (.str "two words"))) (allX_cons (fin (.ref a1) _ ((⟨by decide +kernel, by decide +kernel, by decide +kernel⟩ : Sm 10 200 (.tuple []))) (fun H' k => .inl (.tup (SqT.of (k _ _ E_a1 N_a1)) .nil))) (allX_cons (fin (.ref a2) _ ((sm_t2 tn (⟨by decide +kernel, by decide +kernel, by decide +kernel⟩ : Sm 0 3 (.str "a"))).up (by decide) (by decide)) (fun H' k => .inl (.tup (SqT.of (k _ _ E_a2 N_a2)) (.cons (.int r) (.cons (.str "a") .nil))))) (allX_cons (fin (.ref a3) _ ((sm_l1 tn).up (by decide) (by decide)) (fun H' k => .inl (.lst (SqL.of (k _ _ E_a3 N_a3)) (.cons (.int r) .nil)))) (allX_cons (fin (.ref a4) (.dict []) (⟨by decide +kernel, by decide +kernel, by decide +kernel⟩ : Sm 10 200 (.dict [])) (fun H' k => .inr ⟨a4, [], [], rfl, k _ _ E_a4 N_a4, rfl, .nil⟩)) allX_nil))))))))))))
      (allX_cons (fin (.ref b1) (.dict [(.str "a", .int r)]) ((sm_d1 (⟨by decide +kernel, by decide +kernel, by decide +kernel⟩ : Sm 0 3 (.str "a")) tn).up (by decide) (by decide)) (fun H' k => .inr ⟨b1, _, _, rfl, k _ _ E_b1 N_b1, rfl, .cons ⟨rfl, .int r⟩ .nil⟩)) (allX_cons (fin (.ref b3) _ ((sm_l2 (sm_l1 tn) (⟨by decide +kernel, by decide +kernel, by decide +kernel⟩ : Sm 1 3 (.str "x"))).up (by decide) (by decide)) (fun H' k => .inl (.lst (SqL.of (k _ _ E_b3 N_b3)) (.cons (.lst (SqL.of (k _ _ E_b2 N_b2)) (.cons (.int r) .nil)) (.cons (.str "x") .nil))))) (allX_cons (fin (.ref b6) _ ((⟨by decide +kernel, by decide +kernel, by decide +kernel⟩ : Sm 10 200 (.tuple [.tuple [], .tuple [.str "a", .str "b"]]))) (fun H' k => .inl (.tup (SqT.of (k _ _ E_b6 N_b6)) (.cons (.tup (SqT.of (k _ _ E_b4 N_b4)) .nil) (.cons (.tup (SqT.of (k _ _ E_b5 N_b5)) (.cons (.str "a") (.cons (.str "b") .nil))) .nil))))) (allX_cons (fin (.int ((10 : Int) ^ Int.toNat 59)) _ ((⟨by decide +kernel, by decide +kernel, by decide +kernel⟩ : Sm 10 200 (.int ((10 : Int) ^ Int.toNat 59)))) (fun H' k => .inl (.int _))) allX_nil))))
    refine ⟨p, b8, _, _, rfl, P_b7.ne m8, P_b7.same (same_upd m8), by omega, SqL.of upd_same, by simp, by simp, fun v H' mem P' k' => ?_⟩
    obtain ⟨d, hd⟩ := all v mem
    refine q v d H' (hd.keep ((same_keep (same_upd m8)).trans k')) (P'.mono (by omega)) (kk.trans ((same_keep (same_upd m8)).trans k'))
theorem ok__law_kinds (T : Txt K mg) : FnOk P w K mg base CX0 1 T.f__law_kinds T.fd__law_kinds ["_law_error"] (spKinds K T.cls) := by
  have nd := sc__law_kinds.nd
  refine T.F__law_kinds.ok sc__law_kinds (fun vs H Q E h => ?_) (fun cdv A outer s H vs Q E hr h => ?_)
  · obtain ⟨a, i, rfl, _⟩ := h; rfl
  · obtain ⟨a, i, rfl, hi, e, q⟩ := h
    have hu := hu_of hr
    refine ⟨_, (pss_cons (ps_set (i := 1) nd rfl (Or.inl rfl) (pe_lst (pa_cons (pe_callB call_isX (by rfl) T.n_isinstance (by decide +kernel) (pa_cons (pv 0) (pa_cons (pe_glob (v := .ref T.c_InvalidName) (by rfl) T.m_InvalidName rfl) pa_nil))) (pa_cons (pe_callB call_isX (by rfl) T.n_isinstance (by decide +kernel) (pa_cons (pv 0) (pa_cons (pe_glob (v := .ref T.c_InvalidNumber) (by rfl) T.m_InvalidNumber rfl) pa_nil))) pa_nil))))
        (pss_cons (ps_set (i := 1) nd rfl (Or.inl rfl) (pe_op op_cat (pv 1) (pe_lst (pa_cons (pe_callB call_isX (by rfl) T.n_isinstance (by decide +kernel) (pa_cons (pv 0) (pa_cons (pe_glob (v := .ref T.c_InvalidRow) (by rfl) T.m_InvalidRow rfl) pa_nil))) (pa_cons (pe_callB call_isX (by rfl) T.n_isinstance (by decide +kernel) (pa_cons (pv 0) (pa_cons (pe_glob (v := .ref T.c_NoTarget) (by rfl) T.m_NoTarget rfl) pa_nil))) pa_nil)))))
        (pss_cons (ps_set (i := 1) nd rfl (Or.inl rfl) (pe_op op_cat (pv 1) (pe_lst (pa_cons (pe_callB call_isX (by rfl) T.n_isinstance (by decide +kernel) (pa_cons (pv 0) (pa_cons (pe_glob (v := .ref T.c_NoClass) (by rfl) T.m_NoClass rfl) pa_nil))) (pa_cons (pe_callB call_isX (by rfl) T.n_isinstance (by decide +kernel) (pa_cons (pv 0) (pa_cons (pe_glob (v := .ref T.c_NoLanding) (by rfl) T.m_NoLanding rfl) pa_nil))) pa_nil)))))
        (pss_cons (ps_set (i := 1) nd rfl (Or.inl rfl) (pe_op op_cat (pv 1) (pe_lst (pa_cons (pe_callB call_isX (by rfl) T.n_isinstance (by decide +kernel) (pa_cons (pv 0) (pa_cons (pe_glob (v := .ref T.c_InvalidRows) (by rfl) T.m_InvalidRows rfl) pa_nil))) (pa_cons (pe_callB call_isX (by rfl) T.n_isinstance (by decide +kernel) (pa_cons (pv 0) (pa_cons (pe_glob (v := .ref T.c_InvalidKind) (by rfl) T.m_InvalidKind rfl) pa_nil))) pa_nil)))))
        (pss_cons (ps_set (i := 1) nd rfl (Or.inl rfl) (pe_op op_cat (pv 1) (pe_lst (pa_cons (pe_callB call_isX (by rfl) T.n_isinstance (by decide +kernel) (pa_cons (pv 0) (pa_cons (pe_glob (v := .ref T.c_InvalidFrame) (by rfl) T.m_InvalidFrame rfl) pa_nil))) (pa_cons (pe_callB call_isX (by rfl) T.n_isinstance (by decide +kernel) (pa_cons (pv 0) (pa_cons (pe_glob (v := .ref T.c_InvalidWord) (by rfl) T.m_InvalidWord rfl) pa_nil))) pa_nil)))))
        (pss_cons (ps_set (i := 1) nd rfl (Or.inl rfl) (pe_op op_cat (pv 1) (pe_lst (pa_cons (pe_callB call_isX (by rfl) T.n_isinstance (by decide +kernel) (pa_cons (pv 0) (pa_cons (pe_glob (v := .ref T.c_NotReady) (by rfl) T.m_NotReady rfl) pa_nil))) (pa_cons (pe_callB call_isX (by rfl) T.n_isinstance (by decide +kernel) (pa_cons (pv 0) (pa_cons (pe_glob (v := .ref T.c_TooMany) (by rfl) T.m_TooMany rfl) pa_nil))) pa_nil)))))
        (pss_cons (ps_set (i := 1) nd rfl (Or.inl rfl) (pe_op op_cat (pv 1) (pe_lst (pa_cons (pe_callB call_isX (by rfl) T.n_isinstance (by decide +kernel) (pa_cons (pv 0) (pa_cons (pe_glob (v := .ref T.c_InvalidAddress) (by rfl) T.m_InvalidAddress rfl) pa_nil))) (pa_cons (pe_callB call_isX (by rfl) T.n_isinstance (by decide +kernel) (pa_cons (pv 0) (pa_cons (pe_glob (v := .ref T.c_Locked) (by rfl) T.m_Locked rfl) pa_nil))) pa_nil)))))
        (pss_cons (ps_set (i := 1) nd rfl (Or.inl rfl) (pe_op op_cat (pv 1) (pe_lst (pa_cons (pe_callB call_isX (by rfl) T.n_isinstance (by decide +kernel) (pa_cons (pv 0) (pa_cons (pe_glob (v := .ref T.c_Blank) (by rfl) T.m_Blank rfl) pa_nil))) (pa_cons (pe_callB call_isX (by rfl) T.n_isinstance (by decide +kernel) (pa_cons (pv 0) (pa_cons (pe_glob (v := .ref T.c_StateClash) (by rfl) T.m_StateClash rfl) pa_nil))) pa_nil)))))
        (pss_cons (ps_set (i := 1) nd rfl (Or.inl rfl) (pe_op op_cat (pv 1) (pe_lst (pa_cons (pe_callB call_isX (by rfl) T.n_isinstance (by decide +kernel) (pa_cons (pv 0) (pa_cons (pe_glob (v := .ref T.c_NoCondition) (by rfl) T.m_NoCondition rfl) pa_nil))) (pa_cons (pe_callB call_isX (by rfl) T.n_isinstance (by decide +kernel) (pa_cons (pv 0) (pa_cons (pe_glob (v := .ref T.c_NoField) (by rfl) T.m_NoField rfl) pa_nil))) pa_nil)))))
        (pss_cons (ps_set (i := 1) nd rfl (Or.inl rfl) (pe_op op_cat (pv 1) (pe_lst (pa_cons (pe_callB call_isX (by rfl) T.n_isinstance (by decide +kernel) (pa_cons (pv 0) (pa_cons (pe_glob (v := .ref T.c_NoKind) (by rfl) T.m_NoKind rfl) pa_nil))) (pa_cons (pe_callB call_isX (by rfl) T.n_isinstance (by decide +kernel) (pa_cons (pv 0) (pa_cons (pe_glob (v := .ref T.c_NoState) (by rfl) T.m_NoState rfl) pa_nil))) pa_nil)))))
        (pss_cons (ps_set (i := 1) nd rfl (Or.inl rfl) (pe_op op_cat (pv 1) (pe_lst (pa_cons (pe_callB call_isX (by rfl) T.n_isinstance (by decide +kernel) (pa_cons (pv 0) (pa_cons (pe_glob (v := .ref T.c_Taken) (by rfl) T.m_Taken rfl) pa_nil))) (pa_cons (pe_callB call_isX (by rfl) T.n_isinstance (by decide +kernel) (pa_cons (pv 0) (pa_cons (pe_glob (v := .ref T.c_NotPossible) (by rfl) T.m_NotPossible rfl) pa_nil))) pa_nil)))))
        (pss_cons (ps_set (i := 1) nd rfl (Or.inl rfl) (pe_op op_cat (pv 1) (pe_lst (pa_cons (pe_callB call_isX (by rfl) T.n_isinstance (by decide +kernel) (pa_cons (pv 0) (pa_cons (pe_glob (v := .ref T.c_NoCase) (by rfl) T.m_NoCase rfl) pa_nil))) (pa_cons (pe_callB call_isX (by rfl) T.n_isinstance (by decide +kernel) (pa_cons (pv 0) (pa_cons (pe_glob (v := .ref T.c_WrongCount) (by rfl) T.m_WrongCount rfl) pa_nil))) pa_nil)))))
        (pss_cons (ps_set (i := 1) nd rfl (Or.inl rfl) (pe_op op_cat (pv 1) (pe_lst (pa_cons (pe_callB call_isX (by rfl) T.n_isinstance (by decide +kernel) (pa_cons (pv 0) (pa_cons (pe_glob (v := .ref T.c_TooLarge) (by rfl) T.m_TooLarge rfl) pa_nil))) (pa_cons (pe_callB call_isX (by rfl) T.n_isinstance (by decide +kernel) (pa_cons (pv 0) (pa_cons (pe_glob (v := .ref T.c_InvalidText) (by rfl) T.m_InvalidText rfl) pa_nil))) pa_nil)))))
        (pss_cons (ps_set (i := 1) nd rfl (Or.inl rfl) (pe_op op_cat (pv 1) (pe_lst (pa_cons (pe_callB call_isX (by rfl) T.n_isinstance (by decide +kernel) (pa_cons (pv 0) (pa_cons (pe_glob (v := .ref T.c_FieldClash) (by rfl) T.m_FieldClash rfl) pa_nil))) (pa_cons (pe_callB call_isX (by rfl) T.n_isinstance (by decide +kernel) (pa_cons (pv 0) (pa_cons (pe_glob (v := .ref T.c_Clash) (by rfl) T.m_Clash rfl) pa_nil))) pa_nil)))))
        (pss_cons (ps_set (i := 1) nd rfl (Or.inl rfl) (pe_op op_cat (pv 1) (pe_lst (pa_cons (pe_callB call_isX (by rfl) T.n_isinstance (by decide +kernel) (pa_cons (pv 0) (pa_cons (pe_glob (v := .ref T.c_NoStates) (by rfl) T.m_NoStates rfl) pa_nil))) (pa_cons (pe_callB call_isX (by rfl) T.n_isinstance (by decide +kernel) (pa_cons (pv 0) (pa_cons (pe_glob (v := .ref T.c_NoEntries) (by rfl) T.m_NoEntries rfl) pa_nil))) pa_nil)))))
        (pss_cons (ps_set (i := 1) nd rfl (Or.inl rfl) (pe_op op_cat (pv 1) (pe_lst (pa_cons (pe_callB call_isX (by rfl) T.n_isinstance (by decide +kernel) (pa_cons (pv 0) (pa_cons (pe_glob (v := .ref T.c_NotEnd) (by rfl) T.m_NotEnd rfl) pa_nil))) (pa_cons (pe_callB call_isX (by rfl) T.n_isinstance (by decide +kernel) (pa_cons (pv 0) (pa_cons (pe_glob (v := .ref T.c_NotCarried) (by rfl) T.m_NotCarried rfl) pa_nil))) pa_nil)))))
        (pss_cons (ps_set (i := 1) nd rfl (Or.inl rfl) (pe_op op_cat (pv 1) (pe_lst (pa_cons (pe_callB call_isX (by rfl) T.n_isinstance (by decide +kernel) (pa_cons (pv 0) (pa_cons (pe_glob (v := .ref T.c_Unlike) (by rfl) T.m_Unlike rfl) pa_nil))) pa_nil))))
        (pss_one (ps_ret (pe_lc (own := [("_law_at", 2), ("_law_is_one", 3)]) (g := gTup K 2 (gCons (gName 2) (gCons (gName 3) gNil))) rfl nd (pi_enum (by rfl) T.n_enumerate (pa_cons (pv 1) pa_nil)) (blkOk_by (own := [("_law_at", 2), ("_law_is_one", 3)]) (N := N__law_kinds) (sc := defScope s__law_kinds) (by decide +kernel)) (fun _ _ _ _ _ => pg_tup rfl (pgs_cons (pg_name (i := 2) nd rfl (Or.inl rfl)) (pgs_cons (pg_name (i := 3) nd rfl (Or.inl rfl)) pgs_nil))) (fun _ _ _ _ _ => pts_one (pt_val (pv 3))) (fun _ _ _ _ _ => (pv 2)))))))))))))))))))))), ?_⟩
    obtain ⟨D, g0, d0, hD, xD, eD, fD0⟩ := e
    have fD : ∀ (Hk : Hp), Same H Hk → ∀ dd, d0 = some dd → ∃ fs, Hk dd = some (exd dd fs) := fun Hk s dd q => let ⟨fs, z⟩ := fD0 dd q; ⟨fs, s _ _ z⟩
    have S : Same H H := Same.refl H
    refine ⟨_, rfl, a, D, g0, d0, _, _, _, rfl, xD, T.Z, S _ _ eD, fD _ S, .own _, T.tab i 0 _ _ hD rfl, ?_⟩
    refine ⟨_, rfl, a, D, g0, d0, _, _, _, rfl, xD, T.Z, S _ _ eD, fD _ S, .own _, T.tab i 1 _ _ hD rfl, ?_⟩
    refine ⟨line_of (by simp), fun l0 nl0 => ?_⟩
    obtain ⟨Ha0, hh, Sa0, ta0, e0⟩ := knew (o := .lst [.bl (decide (i = 0)), .bl (decide (i = 1))]) S nl0
    rw [hh]
    clear hh ta0 nl0 S
    have f0e := e0
    clear e0
    refine ⟨_, rfl, ?_⟩
    refine ⟨_, rfl, a, D, g0, d0, _, _, _, rfl, xD, T.Z, Sa0 _ _ eD, fD _ Sa0, .own _, T.tab i 2 _ _ hD rfl, ?_⟩
    refine ⟨_, rfl, a, D, g0, d0, _, _, _, rfl, xD, T.Z, Sa0 _ _ eD, fD _ Sa0, .own _, T.tab i 3 _ _ hD rfl, ?_⟩
    refine ⟨line_of (by simp), fun l1 nl1 => ?_⟩
    obtain ⟨Ha1, hh, Sa1, ta1, e1⟩ := knew (o := .lst [.bl (decide (i = 2)), .bl (decide (i = 3))]) Sa0 nl1
    rw [hh]
    have ef1 := ta1 _ _ f0e
    clear hh ta1 nl1 Sa0 f0e
    refine ⟨l0, l1, _, _, rfl, rfl, ef1, e1, line_of (by simp), fun f1 nf1 => ?_⟩
    obtain ⟨Hb1, hh, Sb1, tb1, f1e⟩ := knew (o := .lst ([.bl (decide (i = 0)), .bl (decide (i = 1))] ++ [.bl (decide (i = 2)), .bl (decide (i = 3))])) Sa1 nf1
    rw [hh]
    clear hh tb1 nf1 Sa1 ef1 e1
    rw [show ([.bl (decide (i = 0)), .bl (decide (i = 1))] ++ [.bl (decide (i = 2)), .bl (decide (i = 3))]) = ([.bl (decide (i = 0)), .bl (decide (i = 1)), .bl (decide (i = 2)), .bl (decide (i = 3))] : List V) from rfl] at f1e
    show tSeq _ _ _ ([some (.ref a), some (.ref f1), none, none] : L2.St) _
    refine ⟨_, rfl, ?_⟩
    refine ⟨_, rfl, a, D, g0, d0, _, _, _, rfl, xD, T.Z, Sb1 _ _ eD, fD _ Sb1, .own _, T.tab i 4 _ _ hD rfl, ?_⟩
    refine ⟨_, rfl, a, D, g0, d0, _, _, _, rfl, xD, T.Z, Sb1 _ _ eD, fD _ Sb1, .own _, T.tab i 5 _ _ hD rfl, ?_⟩
    refine ⟨line_of (by simp), fun l2 nl2 => ?_⟩
    obtain ⟨Ha2, hh, Sa2, ta2, e2⟩ := knew (o := .lst [.bl (decide (i = 4)), .bl (decide (i = 5))]) Sb1 nl2
    rw [hh]
    have ef2 := ta2 _ _ f1e
    clear hh ta2 nl2 Sb1 f1e
    refine ⟨f1, l2, _, _, rfl, rfl, ef2, e2, line_of (by simp), fun f2 nf2 => ?_⟩
    obtain ⟨Hb2, hh, Sb2, tb2, f2e⟩ := knew (o := .lst ([.bl (decide (i = 0)), .bl (decide (i = 1)), .bl (decide (i = 2)), .bl (decide (i = 3))] ++ [.bl (decide (i = 4)), .bl (decide (i = 5))])) Sa2 nf2
    rw [hh]
    clear hh tb2 nf2 Sa2 ef2 e2
    rw [show ([.bl (decide (i = 0)), .bl (decide (i = 1)), .bl (decide (i = 2)), .bl (decide (i = 3))] ++ [.bl (decide (i = 4)), .bl (decide (i = 5))]) = ([.bl (decide (i = 0)), .bl (decide (i = 1)), .bl (decide (i = 2)), .bl (decide (i = 3)), .bl (decide (i = 4)), .bl (decide (i = 5))] : List V) from rfl] at f2e
    show tSeq _ _ _ ([some (.ref a), some (.ref f2), none, none] : L2.St) _
    refine ⟨_, rfl, ?_⟩
    refine ⟨_, rfl, a, D, g0, d0, _, _, _, rfl, xD, T.Z, Sb2 _ _ eD, fD _ Sb2, .own _, T.tab i 6 _ _ hD rfl, ?_⟩
    refine ⟨_, rfl, a, D, g0, d0, _, _, _, rfl, xD, T.Z, Sb2 _ _ eD, fD _ Sb2, .own _, T.tab i 7 _ _ hD rfl, ?_⟩
    refine ⟨line_of (by simp), fun l3 nl3 => ?_⟩
    obtain ⟨Ha3, hh, Sa3, ta3, e3⟩ := knew (o := .lst [.bl (decide (i = 6)), .bl (decide (i = 7))]) Sb2 nl3
    rw [hh]
    have ef3 := ta3 _ _ f2e
    clear hh ta3 nl3 Sb2 f2e
    refine ⟨f2, l3, _, _, rfl, rfl, ef3, e3, line_of (by simp), fun f3 nf3 => ?_⟩
    obtain ⟨Hb3, hh, Sb3, tb3, f3e⟩ := knew (o := .lst ([.bl (decide (i = 0)), .bl (decide (i = 1)), .bl (decide (i = 2)), .bl (decide (i = 3)), .bl (decide (i = 4)), .bl (decide (i = 5))] ++ [.bl (decide (i = 6)), .bl (decide (i = 7))])) Sa3 nf3
    rw [hh]
    clear hh tb3 nf3 Sa3 ef3 e3
    rw [show ([.bl (decide (i = 0)), .bl (decide (i = 1)), .bl (decide (i = 2)), .bl (decide (i = 3)), .bl (decide (i = 4)), .bl (decide (i = 5))] ++ [.bl (decide (i = 6)), .bl (decide (i = 7))]) = ([.bl (decide (i = 0)), .bl (decide (i = 1)), .bl (decide (i = 2)), .bl (decide (i = 3)), .bl (decide (i = 4)), .bl (decide (i = 5)), .bl (decide (i = 6)), .bl (decide (i = 7))] : List V) from rfl] at f3e
    show tSeq _ _ _ ([some (.ref a), some (.ref f3), none, none] : L2.St) _
    refine ⟨_, rfl, ?_⟩
    refine ⟨_, rfl, a, D, g0, d0, _, _, _, rfl, xD, T.Z, Sb3 _ _ eD, fD _ Sb3, .own _, T.tab i 8 _ _ hD rfl, ?_⟩
    refine ⟨_, rfl, a, D, g0, d0, _, _, _, rfl, xD, T.Z, Sb3 _ _ eD, fD _ Sb3, .own _, T.tab i 9 _ _ hD rfl, ?_⟩
    refine ⟨line_of (by simp), fun l4 nl4 => ?_⟩
    obtain ⟨Ha4, hh, Sa4, ta4, e4⟩ := knew (o := .lst [.bl (decide (i = 8)), .bl (decide (i = 9))]) Sb3 nl4
    rw [hh]
    have ef4 := ta4 _ _ f3e
    clear hh ta4 nl4 Sb3 f3e
    refine ⟨f3, l4, _, _, rfl, rfl, ef4, e4, line_of (by simp), fun f4 nf4 => ?_⟩
    obtain ⟨Hb4, hh, Sb4, tb4, f4e⟩ := knew (o := .lst ([.bl (decide (i = 0)), .bl (decide (i = 1)), .bl (decide (i = 2)), .bl (decide (i = 3)), .bl (decide (i = 4)), .bl (decide (i = 5)), .bl (decide (i = 6)), .bl (decide (i = 7))] ++ [.bl (decide (i = 8)), .bl (decide (i = 9))])) Sa4 nf4
    rw [hh]
    clear hh tb4 nf4 Sa4 ef4 e4
    rw [show ([.bl (decide (i = 0)), .bl (decide (i = 1)), .bl (decide (i = 2)), .bl (decide (i = 3)), .bl (decide (i = 4)), .bl (decide (i = 5)), .bl (decide (i = 6)), .bl (decide (i = 7))] ++ [.bl (decide (i = 8)), .bl (decide (i = 9))]) = ([.bl (decide (i = 0)), .bl (decide (i = 1)), .bl (decide (i = 2)), .bl (decide (i = 3)), .bl (decide (i = 4)), .bl (decide (i = 5)), .bl (decide (i = 6)), .bl (decide (i = 7)), .bl (decide (i = 8)), .bl (decide (i = 9))] : List V) from rfl] at f4e
    show tSeq _ _ _ ([some (.ref a), some (.ref f4), none, none] : L2.St) _
    refine ⟨_, rfl, ?_⟩
    refine ⟨_, rfl, a, D, g0, d0, _, _, _, rfl, xD, T.Z, Sb4 _ _ eD, fD _ Sb4, .own _, T.tab i 10 _ _ hD rfl, ?_⟩
    refine ⟨_, rfl, a, D, g0, d0, _, _, _, rfl, xD, T.Z, Sb4 _ _ eD, fD _ Sb4, .own _, T.tab i 11 _ _ hD rfl, ?_⟩
    refine ⟨line_of (by simp), fun l5 nl5 => ?_⟩
    obtain ⟨Ha5, hh, Sa5, ta5, e5⟩ := knew (o := .lst [.bl (decide (i = 10)), .bl (decide (i = 11))]) Sb4 nl5
    rw [hh]
    have ef5 := ta5 _ _ f4e
    clear hh ta5 nl5 Sb4 f4e
    refine ⟨f4, l5, _, _, rfl, rfl, ef5, e5, line_of (by simp), fun f5 nf5 => ?_⟩
    obtain ⟨Hb5, hh, Sb5, tb5, f5e⟩ := knew (o := .lst ([.bl (decide (i = 0)), .bl (decide (i = 1)), .bl (decide (i = 2)), .bl (decide (i = 3)), .bl (decide (i = 4)), .bl (decide (i = 5)), .bl (decide (i = 6)), .bl (decide (i = 7)), .bl (decide (i = 8)), .bl (decide (i = 9))] ++ [.bl (decide (i = 10)), .bl (decide (i = 11))])) Sa5 nf5
    rw [hh]
    clear hh tb5 nf5 Sa5 ef5 e5
    rw [show ([.bl (decide (i = 0)), .bl (decide (i = 1)), .bl (decide (i = 2)), .bl (decide (i = 3)), .bl (decide (i = 4)), .bl (decide (i = 5)), .bl (decide (i = 6)), .bl (decide (i = 7)), .bl (decide (i = 8)), .bl (decide (i = 9))] ++ [.bl (decide (i = 10)), .bl (decide (i = 11))]) = ([.bl (decide (i = 0)), .bl (decide (i = 1)), .bl (decide (i = 2)), .bl (decide (i = 3)), .bl (decide (i = 4)), .bl (decide (i = 5)), .bl (decide (i = 6)), .bl (decide (i = 7)), .bl (decide (i = 8)), .bl (decide (i = 9)), .bl (decide (i = 10)), .bl (decide (i = 11))] : List V) from rfl] at f5e
    show tSeq _ _ _ ([some (.ref a), some (.ref f5), none, none] : L2.St) _
    refine ⟨_, rfl, ?_⟩
    refine ⟨_, rfl, a, D, g0, d0, _, _, _, rfl, xD, T.Z, Sb5 _ _ eD, fD _ Sb5, .own _, T.tab i 12 _ _ hD rfl, ?_⟩
    refine ⟨_, rfl, a, D, g0, d0, _, _, _, rfl, xD, T.Z, Sb5 _ _ eD, fD _ Sb5, .own _, T.tab i 13 _ _ hD rfl, ?_⟩
    refine ⟨line_of (by simp), fun l6 nl6 => ?_⟩
    obtain ⟨Ha6, hh, Sa6, ta6, e6⟩ := knew (o := .lst [.bl (decide (i = 12)), .bl (decide (i = 13))]) Sb5 nl6
    rw [hh]
    have ef6 := ta6 _ _ f5e
    clear hh ta6 nl6 Sb5 f5e
    refine ⟨f5, l6, _, _, rfl, rfl, ef6, e6, line_of (by simp), fun f6 nf6 => ?_⟩
    obtain ⟨Hb6, hh, Sb6, tb6, f6e⟩ := knew (o := .lst ([.bl (decide (i = 0)), .bl (decide (i = 1)), .bl (decide (i = 2)), .bl (decide (i = 3)), .bl (decide (i = 4)), .bl (decide (i = 5)), .bl (decide (i = 6)), .bl (decide (i = 7)), .bl (decide (i = 8)), .bl (decide (i = 9)), .bl (decide (i = 10)), .bl (decide (i = 11))] ++ [.bl (decide (i = 12)), .bl (decide (i = 13))])) Sa6 nf6
    rw [hh]
    clear hh tb6 nf6 Sa6 ef6 e6
    rw [show ([.bl (decide (i = 0)), .bl (decide (i = 1)), .bl (decide (i = 2)), .bl (decide (i = 3)), .bl (decide (i = 4)), .bl (decide (i = 5)), .bl (decide (i = 6)), .bl (decide (i = 7)), .bl (decide (i = 8)), .bl (decide (i = 9)), .bl (decide (i = 10)), .bl (decide (i = 11))] ++ [.bl (decide (i = 12)), .bl (decide (i = 13))]) = ([.bl (decide (i = 0)), .bl (decide (i = 1)), .bl (decide (i = 2)), .bl (decide (i = 3)), .bl (decide (i = 4)), .bl (decide (i = 5)), .bl (decide (i = 6)), .bl (decide (i = 7)), .bl (decide (i = 8)), .bl (decide (i = 9)), .bl (decide (i = 10)), .bl (decide (i = 11)), .bl (decide (i = 12)), .bl (decide (i = 13))] : List V) from rfl] at f6e
    show tSeq _ _ _ ([some (.ref a), some (.ref f6), none, none] : L2.St) _
    refine ⟨_, rfl, ?_⟩
    refine ⟨_, rfl, a, D, g0, d0, _, _, _, rfl, xD, T.Z, Sb6 _ _ eD, fD _ Sb6, .own _, T.tab i 14 _ _ hD rfl, ?_⟩
    refine ⟨_, rfl, a, D, g0, d0, _, _, _, rfl, xD, T.Z, Sb6 _ _ eD, fD _ Sb6, .own _, T.tab i 15 _ _ hD rfl, ?_⟩
    refine ⟨line_of (by simp), fun l7 nl7 => ?_⟩
    obtain ⟨Ha7, hh, Sa7, ta7, e7⟩ := knew (o := .lst [.bl (decide (i = 14)), .bl (decide (i = 15))]) Sb6 nl7
    rw [hh]
    have ef7 := ta7 _ _ f6e
    clear hh ta7 nl7 Sb6 f6e
    refine ⟨f6, l7, _, _, rfl, rfl, ef7, e7, line_of (by simp), fun f7 nf7 => ?_⟩
    obtain ⟨Hb7, hh, Sb7, tb7, f7e⟩ := knew (o := .lst ([.bl (decide (i = 0)), .bl (decide (i = 1)), .bl (decide (i = 2)), .bl (decide (i = 3)), .bl (decide (i = 4)), .bl (decide (i = 5)), .bl (decide (i = 6)), .bl (decide (i = 7)), .bl (decide (i = 8)), .bl (decide (i = 9)), .bl (decide (i = 10)), .bl (decide (i = 11)), .bl (decide (i = 12)), .bl (decide (i = 13))] ++ [.bl (decide (i = 14)), .bl (decide (i = 15))])) Sa7 nf7
    rw [hh]
    clear hh tb7 nf7 Sa7 ef7 e7
    rw [show ([.bl (decide (i = 0)), .bl (decide (i = 1)), .bl (decide (i = 2)), .bl (decide (i = 3)), .bl (decide (i = 4)), .bl (decide (i = 5)), .bl (decide (i = 6)), .bl (decide (i = 7)), .bl (decide (i = 8)), .bl (decide (i = 9)), .bl (decide (i = 10)), .bl (decide (i = 11)), .bl (decide (i = 12)), .bl (decide (i = 13))] ++ [.bl (decide (i = 14)), .bl (decide (i = 15))]) = ([.bl (decide (i = 0)), .bl (decide (i = 1)), .bl (decide (i = 2)), .bl (decide (i = 3)), .bl (decide (i = 4)), .bl (decide (i = 5)), .bl (decide (i = 6)), .bl (decide (i = 7)), .bl (decide (i = 8)), .bl (decide (i = 9)), .bl (decide (i = 10)), .bl (decide (i = 11)), .bl (decide (i = 12)), .bl (decide (i = 13)), .bl (decide (i = 14)), .bl (decide (i = 15))] : List V) from rfl] at f7e
    show tSeq _ _ _ ([some (.ref a), some (.ref f7), none, none] : L2.St) _
    refine ⟨_, rfl, ?_⟩
    refine ⟨_, rfl, a, D, g0, d0, _, _, _, rfl, xD, T.Z, Sb7 _ _ eD, fD _ Sb7, .own _, T.tab i 16 _ _ hD rfl, ?_⟩
    refine ⟨_, rfl, a, D, g0, d0, _, _, _, rfl, xD, T.Z, Sb7 _ _ eD, fD _ Sb7, .own _, T.tab i 17 _ _ hD rfl, ?_⟩
    refine ⟨line_of (by simp), fun l8 nl8 => ?_⟩
    obtain ⟨Ha8, hh, Sa8, ta8, e8⟩ := knew (o := .lst [.bl (decide (i = 16)), .bl (decide (i = 17))]) Sb7 nl8
    rw [hh]
    have ef8 := ta8 _ _ f7e
    clear hh ta8 nl8 Sb7 f7e
    refine ⟨f7, l8, _, _, rfl, rfl, ef8, e8, line_of (by simp), fun f8 nf8 => ?_⟩
    obtain ⟨Hb8, hh, Sb8, tb8, f8e⟩ := knew (o := .lst ([.bl (decide (i = 0)), .bl (decide (i = 1)), .bl (decide (i = 2)), .bl (decide (i = 3)), .bl (decide (i = 4)), .bl (decide (i = 5)), .bl (decide (i = 6)), .bl (decide (i = 7)), .bl (decide (i = 8)), .bl (decide (i = 9)), .bl (decide (i = 10)), .bl (decide (i = 11)), .bl (decide (i = 12)), .bl (decide (i = 13)), .bl (decide (i = 14)), .bl (decide (i = 15))] ++ [.bl (decide (i = 16)), .bl (decide (i = 17))])) Sa8 nf8
    rw [hh]
    clear hh tb8 nf8 Sa8 ef8 e8
    rw [show ([.bl (decide (i = 0)), .bl (decide (i = 1)), .bl (decide (i = 2)), .bl (decide (i = 3)), .bl (decide (i = 4)), .bl (decide (i = 5)), .bl (decide (i = 6)), .bl (decide (i = 7)), .bl (decide (i = 8)), .bl (decide (i = 9)), .bl (decide (i = 10)), .bl (decide (i = 11)), .bl (decide (i = 12)), .bl (decide (i = 13)), .bl (decide (i = 14)), .bl (decide (i = 15))] ++ [.bl (decide (i = 16)), .bl (decide (i = 17))]) = ([.bl (decide (i = 0)), .bl (decide (i = 1)), .bl (decide (i = 2)), .bl (decide (i = 3)), .bl (decide (i = 4)), .bl (decide (i = 5)), .bl (decide (i = 6)), .bl (decide (i = 7)), .bl (decide (i = 8)), .bl (decide (i = 9)), .bl (decide (i = 10)), .bl (decide (i = 11)), .bl (decide (i = 12)), .bl (decide (i = 13)), .bl (decide (i = 14)), .bl (decide (i = 15)), .bl (decide (i = 16)), .bl (decide (i = 17))] : List V) from rfl] at f8e
    show tSeq _ _ _ ([some (.ref a), some (.ref f8), none, none] : L2.St) _
    refine ⟨_, rfl, ?_⟩
    refine ⟨_, rfl, a, D, g0, d0, _, _, _, rfl, xD, T.Z, Sb8 _ _ eD, fD _ Sb8, .own _, T.tab i 18 _ _ hD rfl, ?_⟩
    refine ⟨_, rfl, a, D, g0, d0, _, _, _, rfl, xD, T.Z, Sb8 _ _ eD, fD _ Sb8, .own _, T.tab i 19 _ _ hD rfl, ?_⟩
    refine ⟨line_of (by simp), fun l9 nl9 => ?_⟩
    obtain ⟨Ha9, hh, Sa9, ta9, e9⟩ := knew (o := .lst [.bl (decide (i = 18)), .bl (decide (i = 19))]) Sb8 nl9
    rw [hh]
    have ef9 := ta9 _ _ f8e
    clear hh ta9 nl9 Sb8 f8e
    refine ⟨f8, l9, _, _, rfl, rfl, ef9, e9, line_of (by simp), fun f9 nf9 => ?_⟩
    obtain ⟨Hb9, hh, Sb9, tb9, f9e⟩ := knew (o := .lst ([.bl (decide (i = 0)), .bl (decide (i = 1)), .bl (decide (i = 2)), .bl (decide (i = 3)), .bl (decide (i = 4)), .bl (decide (i = 5)), .bl (decide (i = 6)), .bl (decide (i = 7)), .bl (decide (i = 8)), .bl (decide (i = 9)), .bl (decide (i = 10)), .bl (decide (i = 11)), .bl (decide (i = 12)), .bl (decide (i = 13)), .bl (decide (i = 14)), .bl (decide (i = 15)), .bl (decide (i = 16)), .bl (decide (i = 17))] ++ [.bl (decide (i = 18)), .bl (decide (i = 19))])) Sa9 nf9
    rw [hh]
    clear hh tb9 nf9 Sa9 ef9 e9
    rw [show ([.bl (decide (i = 0)), .bl (decide (i = 1)), .bl (decide (i = 2)), .bl (decide (i = 3)), .bl (decide (i = 4)), .bl (decide (i = 5)), .bl (decide (i = 6)), .bl (decide (i = 7)), .bl (decide (i = 8)), .bl (decide (i = 9)), .bl (decide (i = 10)), .bl (decide (i = 11)), .bl (decide (i = 12)), .bl (decide (i = 13)), .bl (decide (i = 14)), .bl (decide (i = 15)), .bl (decide (i = 16)), .bl (decide (i = 17))] ++ [.bl (decide (i = 18)), .bl (decide (i = 19))]) = ([.bl (decide (i = 0)), .bl (decide (i = 1)), .bl (decide (i = 2)), .bl (decide (i = 3)), .bl (decide (i = 4)), .bl (decide (i = 5)), .bl (decide (i = 6)), .bl (decide (i = 7)), .bl (decide (i = 8)), .bl (decide (i = 9)), .bl (decide (i = 10)), .bl (decide (i = 11)), .bl (decide (i = 12)), .bl (decide (i = 13)), .bl (decide (i = 14)), .bl (decide (i = 15)), .bl (decide (i = 16)), .bl (decide (i = 17)), .bl (decide (i = 18)), .bl (decide (i = 19))] : List V) from rfl] at f9e
    show tSeq _ _ _ ([some (.ref a), some (.ref f9), none, none] : L2.St) _
    refine ⟨_, rfl, ?_⟩
    refine ⟨_, rfl, a, D, g0, d0, _, _, _, rfl, xD, T.Z, Sb9 _ _ eD, fD _ Sb9, .own _, T.tab i 20 _ _ hD rfl, ?_⟩
    refine ⟨_, rfl, a, D, g0, d0, _, _, _, rfl, xD, T.Z, Sb9 _ _ eD, fD _ Sb9, .own _, T.tab i 21 _ _ hD rfl, ?_⟩
    refine ⟨line_of (by simp), fun l10 nl10 => ?_⟩
    obtain ⟨Ha10, hh, Sa10, ta10, e10⟩ := knew (o := .lst [.bl (decide (i = 20)), .bl (decide (i = 21))]) Sb9 nl10
    rw [hh]
    have ef10 := ta10 _ _ f9e
    clear hh ta10 nl10 Sb9 f9e
    refine ⟨f9, l10, _, _, rfl, rfl, ef10, e10, line_of (by simp), fun f10 nf10 => ?_⟩
    obtain ⟨Hb10, hh, Sb10, tb10, f10e⟩ := knew (o := .lst ([.bl (decide (i = 0)), .bl (decide (i = 1)), .bl (decide (i = 2)), .bl (decide (i = 3)), .bl (decide (i = 4)), .bl (decide (i = 5)), .bl (decide (i = 6)), .bl (decide (i = 7)), .bl (decide (i = 8)), .bl (decide (i = 9)), .bl (decide (i = 10)), .bl (decide (i = 11)), .bl (decide (i = 12)), .bl (decide (i = 13)), .bl (decide (i = 14)), .bl (decide (i = 15)), .bl (decide (i = 16)), .bl (decide (i = 17)), .bl (decide (i = 18)), .bl (decide (i = 19))] ++ [.bl (decide (i = 20)), .bl (decide (i = 21))])) Sa10 nf10
    rw [hh]
    clear hh tb10 nf10 Sa10 ef10 e10
    rw [show ([.bl (decide (i = 0)), .bl (decide (i = 1)), .bl (decide (i = 2)), .bl (decide (i = 3)), .bl (decide (i = 4)), .bl (decide (i = 5)), .bl (decide (i = 6)), .bl (decide (i = 7)), .bl (decide (i = 8)), .bl (decide (i = 9)), .bl (decide (i = 10)), .bl (decide (i = 11)), .bl (decide (i = 12)), .bl (decide (i = 13)), .bl (decide (i = 14)), .bl (decide (i = 15)), .bl (decide (i = 16)), .bl (decide (i = 17)), .bl (decide (i = 18)), .bl (decide (i = 19))] ++ [.bl (decide (i = 20)), .bl (decide (i = 21))]) = ([.bl (decide (i = 0)), .bl (decide (i = 1)), .bl (decide (i = 2)), .bl (decide (i = 3)), .bl (decide (i = 4)), .bl (decide (i = 5)), .bl (decide (i = 6)), .bl (decide (i = 7)), .bl (decide (i = 8)), .bl (decide (i = 9)), .bl (decide (i = 10)), .bl (decide (i = 11)), .bl (decide (i = 12)), .bl (decide (i = 13)), .bl (decide (i = 14)), .bl (decide (i = 15)), .bl (decide (i = 16)), .bl (decide (i = 17)), .bl (decide (i = 18)), .bl (decide (i = 19)), .bl (decide (i = 20)), .bl (decide (i = 21))] : List V) from rfl] at f10e
    show tSeq _ _ _ ([some (.ref a), some (.ref f10), none, none] : L2.St) _
    refine ⟨_, rfl, ?_⟩
    refine ⟨_, rfl, a, D, g0, d0, _, _, _, rfl, xD, T.Z, Sb10 _ _ eD, fD _ Sb10, .own _, T.tab i 22 _ _ hD rfl, ?_⟩
    refine ⟨_, rfl, a, D, g0, d0, _, _, _, rfl, xD, T.Z, Sb10 _ _ eD, fD _ Sb10, .own _, T.tab i 23 _ _ hD rfl, ?_⟩
    refine ⟨line_of (by simp), fun l11 nl11 => ?_⟩
    obtain ⟨Ha11, hh, Sa11, ta11, e11⟩ := knew (o := .lst [.bl (decide (i = 22)), .bl (decide (i = 23))]) Sb10 nl11
    rw [hh]
    have ef11 := ta11 _ _ f10e
    clear hh ta11 nl11 Sb10 f10e
    refine ⟨f10, l11, _, _, rfl, rfl, ef11, e11, line_of (by simp), fun f11 nf11 => ?_⟩
    obtain ⟨Hb11, hh, Sb11, tb11, f11e⟩ := knew (o := .lst ([.bl (decide (i = 0)), .bl (decide (i = 1)), .bl (decide (i = 2)), .bl (decide (i = 3)), .bl (decide (i = 4)), .bl (decide (i = 5)), .bl (decide (i = 6)), .bl (decide (i = 7)), .bl (decide (i = 8)), .bl (decide (i = 9)), .bl (decide (i = 10)), .bl (decide (i = 11)), .bl (decide (i = 12)), .bl (decide (i = 13)), .bl (decide (i = 14)), .bl (decide (i = 15)), .bl (decide (i = 16)), .bl (decide (i = 17)), .bl (decide (i = 18)), .bl (decide (i = 19)), .bl (decide (i = 20)), .bl (decide (i = 21))] ++ [.bl (decide (i = 22)), .bl (decide (i = 23))])) Sa11 nf11
    rw [hh]
    clear hh tb11 nf11 Sa11 ef11 e11
    rw [show ([.bl (decide (i = 0)), .bl (decide (i = 1)), .bl (decide (i = 2)), .bl (decide (i = 3)), .bl (decide (i = 4)), .bl (decide (i = 5)), .bl (decide (i = 6)), .bl (decide (i = 7)), .bl (decide (i = 8)), .bl (decide (i = 9)), .bl (decide (i = 10)), .bl (decide (i = 11)), .bl (decide (i = 12)), .bl (decide (i = 13)), .bl (decide (i = 14)), .bl (decide (i = 15)), .bl (decide (i = 16)), .bl (decide (i = 17)), .bl (decide (i = 18)), .bl (decide (i = 19)), .bl (decide (i = 20)), .bl (decide (i = 21))] ++ [.bl (decide (i = 22)), .bl (decide (i = 23))]) = ([.bl (decide (i = 0)), .bl (decide (i = 1)), .bl (decide (i = 2)), .bl (decide (i = 3)), .bl (decide (i = 4)), .bl (decide (i = 5)), .bl (decide (i = 6)), .bl (decide (i = 7)), .bl (decide (i = 8)), .bl (decide (i = 9)), .bl (decide (i = 10)), .bl (decide (i = 11)), .bl (decide (i = 12)), .bl (decide (i = 13)), .bl (decide (i = 14)), .bl (decide (i = 15)), .bl (decide (i = 16)), .bl (decide (i = 17)), .bl (decide (i = 18)), .bl (decide (i = 19)), .bl (decide (i = 20)), .bl (decide (i = 21)), .bl (decide (i = 22)), .bl (decide (i = 23))] : List V) from rfl] at f11e
    show tSeq _ _ _ ([some (.ref a), some (.ref f11), none, none] : L2.St) _
    refine ⟨_, rfl, ?_⟩
    refine ⟨_, rfl, a, D, g0, d0, _, _, _, rfl, xD, T.Z, Sb11 _ _ eD, fD _ Sb11, .own _, T.tab i 24 _ _ hD rfl, ?_⟩
    refine ⟨_, rfl, a, D, g0, d0, _, _, _, rfl, xD, T.Z, Sb11 _ _ eD, fD _ Sb11, .own _, T.tab i 25 _ _ hD rfl, ?_⟩
    refine ⟨line_of (by simp), fun l12 nl12 => ?_⟩
    obtain ⟨Ha12, hh, Sa12, ta12, e12⟩ := knew (o := .lst [.bl (decide (i = 24)), .bl (decide (i = 25))]) Sb11 nl12
    rw [hh]
    have ef12 := ta12 _ _ f11e
    clear hh ta12 nl12 Sb11 f11e
    refine ⟨f11, l12, _, _, rfl, rfl, ef12, e12, line_of (by simp), fun f12 nf12 => ?_⟩
    obtain ⟨Hb12, hh, Sb12, tb12, f12e⟩ := knew (o := .lst ([.bl (decide (i = 0)), .bl (decide (i = 1)), .bl (decide (i = 2)), .bl (decide (i = 3)), .bl (decide (i = 4)), .bl (decide (i = 5)), .bl (decide (i = 6)), .bl (decide (i = 7)), .bl (decide (i = 8)), .bl (decide (i = 9)), .bl (decide (i = 10)), .bl (decide (i = 11)), .bl (decide (i = 12)), .bl (decide (i = 13)), .bl (decide (i = 14)), .bl (decide (i = 15)), .bl (decide (i = 16)), .bl (decide (i = 17)), .bl (decide (i = 18)), .bl (decide (i = 19)), .bl (decide (i = 20)), .bl (decide (i = 21)), .bl (decide (i = 22)), .bl (decide (i = 23))] ++ [.bl (decide (i = 24)), .bl (decide (i = 25))])) Sa12 nf12
    rw [hh]
    clear hh tb12 nf12 Sa12 ef12 e12
    rw [show ([.bl (decide (i = 0)), .bl (decide (i = 1)), .bl (decide (i = 2)), .bl (decide (i = 3)), .bl (decide (i = 4)), .bl (decide (i = 5)), .bl (decide (i = 6)), .bl (decide (i = 7)), .bl (decide (i = 8)), .bl (decide (i = 9)), .bl (decide (i = 10)), .bl (decide (i = 11)), .bl (decide (i = 12)), .bl (decide (i = 13)), .bl (decide (i = 14)), .bl (decide (i = 15)), .bl (decide (i = 16)), .bl (decide (i = 17)), .bl (decide (i = 18)), .bl (decide (i = 19)), .bl (decide (i = 20)), .bl (decide (i = 21)), .bl (decide (i = 22)), .bl (decide (i = 23))] ++ [.bl (decide (i = 24)), .bl (decide (i = 25))]) = ([.bl (decide (i = 0)), .bl (decide (i = 1)), .bl (decide (i = 2)), .bl (decide (i = 3)), .bl (decide (i = 4)), .bl (decide (i = 5)), .bl (decide (i = 6)), .bl (decide (i = 7)), .bl (decide (i = 8)), .bl (decide (i = 9)), .bl (decide (i = 10)), .bl (decide (i = 11)), .bl (decide (i = 12)), .bl (decide (i = 13)), .bl (decide (i = 14)), .bl (decide (i = 15)), .bl (decide (i = 16)), .bl (decide (i = 17)), .bl (decide (i = 18)), .bl (decide (i = 19)), .bl (decide (i = 20)), .bl (decide (i = 21)), .bl (decide (i = 22)), .bl (decide (i = 23)), .bl (decide (i = 24)), .bl (decide (i = 25))] : List V) from rfl] at f12e
    show tSeq _ _ _ ([some (.ref a), some (.ref f12), none, none] : L2.St) _
    refine ⟨_, rfl, ?_⟩
    refine ⟨_, rfl, a, D, g0, d0, _, _, _, rfl, xD, T.Z, Sb12 _ _ eD, fD _ Sb12, .own _, T.tab i 26 _ _ hD rfl, ?_⟩
    refine ⟨_, rfl, a, D, g0, d0, _, _, _, rfl, xD, T.Z, Sb12 _ _ eD, fD _ Sb12, .own _, T.tab i 27 _ _ hD rfl, ?_⟩
    refine ⟨line_of (by simp), fun l13 nl13 => ?_⟩
    obtain ⟨Ha13, hh, Sa13, ta13, e13⟩ := knew (o := .lst [.bl (decide (i = 26)), .bl (decide (i = 27))]) Sb12 nl13
    rw [hh]
    have ef13 := ta13 _ _ f12e
    clear hh ta13 nl13 Sb12 f12e
    refine ⟨f12, l13, _, _, rfl, rfl, ef13, e13, line_of (by simp), fun f13 nf13 => ?_⟩
    obtain ⟨Hb13, hh, Sb13, tb13, f13e⟩ := knew (o := .lst ([.bl (decide (i = 0)), .bl (decide (i = 1)), .bl (decide (i = 2)), .bl (decide (i = 3)), .bl (decide (i = 4)), .bl (decide (i = 5)), .bl (decide (i = 6)), .bl (decide (i = 7)), .bl (decide (i = 8)), .bl (decide (i = 9)), .bl (decide (i = 10)), .bl (decide (i = 11)), .bl (decide (i = 12)), .bl (decide (i = 13)), .bl (decide (i = 14)), .bl (decide (i = 15)), .bl (decide (i = 16)), .bl (decide (i = 17)), .bl (decide (i = 18)), .bl (decide (i = 19)), .bl (decide (i = 20)), .bl (decide (i = 21)), .bl (decide (i = 22)), .bl (decide (i = 23)), .bl (decide (i = 24)), .bl (decide (i = 25))] ++ [.bl (decide (i = 26)), .bl (decide (i = 27))])) Sa13 nf13
    rw [hh]
    clear hh tb13 nf13 Sa13 ef13 e13
    rw [show ([.bl (decide (i = 0)), .bl (decide (i = 1)), .bl (decide (i = 2)), .bl (decide (i = 3)), .bl (decide (i = 4)), .bl (decide (i = 5)), .bl (decide (i = 6)), .bl (decide (i = 7)), .bl (decide (i = 8)), .bl (decide (i = 9)), .bl (decide (i = 10)), .bl (decide (i = 11)), .bl (decide (i = 12)), .bl (decide (i = 13)), .bl (decide (i = 14)), .bl (decide (i = 15)), .bl (decide (i = 16)), .bl (decide (i = 17)), .bl (decide (i = 18)), .bl (decide (i = 19)), .bl (decide (i = 20)), .bl (decide (i = 21)), .bl (decide (i = 22)), .bl (decide (i = 23)), .bl (decide (i = 24)), .bl (decide (i = 25))] ++ [.bl (decide (i = 26)), .bl (decide (i = 27))]) = ([.bl (decide (i = 0)), .bl (decide (i = 1)), .bl (decide (i = 2)), .bl (decide (i = 3)), .bl (decide (i = 4)), .bl (decide (i = 5)), .bl (decide (i = 6)), .bl (decide (i = 7)), .bl (decide (i = 8)), .bl (decide (i = 9)), .bl (decide (i = 10)), .bl (decide (i = 11)), .bl (decide (i = 12)), .bl (decide (i = 13)), .bl (decide (i = 14)), .bl (decide (i = 15)), .bl (decide (i = 16)), .bl (decide (i = 17)), .bl (decide (i = 18)), .bl (decide (i = 19)), .bl (decide (i = 20)), .bl (decide (i = 21)), .bl (decide (i = 22)), .bl (decide (i = 23)), .bl (decide (i = 24)), .bl (decide (i = 25)), .bl (decide (i = 26)), .bl (decide (i = 27))] : List V) from rfl] at f13e
    show tSeq _ _ _ ([some (.ref a), some (.ref f13), none, none] : L2.St) _
    refine ⟨_, rfl, ?_⟩
    refine ⟨_, rfl, a, D, g0, d0, _, _, _, rfl, xD, T.Z, Sb13 _ _ eD, fD _ Sb13, .own _, T.tab i 28 _ _ hD rfl, ?_⟩
    refine ⟨_, rfl, a, D, g0, d0, _, _, _, rfl, xD, T.Z, Sb13 _ _ eD, fD _ Sb13, .own _, T.tab i 29 _ _ hD rfl, ?_⟩
    refine ⟨line_of (by simp), fun l14 nl14 => ?_⟩
    obtain ⟨Ha14, hh, Sa14, ta14, e14⟩ := knew (o := .lst [.bl (decide (i = 28)), .bl (decide (i = 29))]) Sb13 nl14
    rw [hh]
    have ef14 := ta14 _ _ f13e
    clear hh ta14 nl14 Sb13 f13e
    refine ⟨f13, l14, _, _, rfl, rfl, ef14, e14, line_of (by simp), fun f14 nf14 => ?_⟩
    obtain ⟨Hb14, hh, Sb14, tb14, f14e⟩ := knew (o := .lst ([.bl (decide (i = 0)), .bl (decide (i = 1)), .bl (decide (i = 2)), .bl (decide (i = 3)), .bl (decide (i = 4)), .bl (decide (i = 5)), .bl (decide (i = 6)), .bl (decide (i = 7)), .bl (decide (i = 8)), .bl (decide (i = 9)), .bl (decide (i = 10)), .bl (decide (i = 11)), .bl (decide (i = 12)), .bl (decide (i = 13)), .bl (decide (i = 14)), .bl (decide (i = 15)), .bl (decide (i = 16)), .bl (decide (i = 17)), .bl (decide (i = 18)), .bl (decide (i = 19)), .bl (decide (i = 20)), .bl (decide (i = 21)), .bl (decide (i = 22)), .bl (decide (i = 23)), .bl (decide (i = 24)), .bl (decide (i = 25)), .bl (decide (i = 26)), .bl (decide (i = 27))] ++ [.bl (decide (i = 28)), .bl (decide (i = 29))])) Sa14 nf14
    rw [hh]
    clear hh tb14 nf14 Sa14 ef14 e14
    rw [show ([.bl (decide (i = 0)), .bl (decide (i = 1)), .bl (decide (i = 2)), .bl (decide (i = 3)), .bl (decide (i = 4)), .bl (decide (i = 5)), .bl (decide (i = 6)), .bl (decide (i = 7)), .bl (decide (i = 8)), .bl (decide (i = 9)), .bl (decide (i = 10)), .bl (decide (i = 11)), .bl (decide (i = 12)), .bl (decide (i = 13)), .bl (decide (i = 14)), .bl (decide (i = 15)), .bl (decide (i = 16)), .bl (decide (i = 17)), .bl (decide (i = 18)), .bl (decide (i = 19)), .bl (decide (i = 20)), .bl (decide (i = 21)), .bl (decide (i = 22)), .bl (decide (i = 23)), .bl (decide (i = 24)), .bl (decide (i = 25)), .bl (decide (i = 26)), .bl (decide (i = 27))] ++ [.bl (decide (i = 28)), .bl (decide (i = 29))]) = ([.bl (decide (i = 0)), .bl (decide (i = 1)), .bl (decide (i = 2)), .bl (decide (i = 3)), .bl (decide (i = 4)), .bl (decide (i = 5)), .bl (decide (i = 6)), .bl (decide (i = 7)), .bl (decide (i = 8)), .bl (decide (i = 9)), .bl (decide (i = 10)), .bl (decide (i = 11)), .bl (decide (i = 12)), .bl (decide (i = 13)), .bl (decide (i = 14)), .bl (decide (i = 15)), .bl (decide (i = 16)), .bl (decide (i = 17)), .bl (decide (i = 18)), .bl (decide (i = 19)), .bl (decide (i = 20)), .bl (decide (i = 21)), .bl (decide (i = 22)), .bl (decide (i = 23)), .bl (decide (i = 24)), .bl (decide (i = 25)), .bl (decide (i = 26)), .bl (decide (i = 27)), .bl (decide (i = 28)), .bl (decide (i = 29))] : List V) from rfl] at f14e
    show tSeq _ _ _ ([some (.ref a), some (.ref f14), none, none] : L2.St) _
    refine ⟨_, rfl, ?_⟩
    refine ⟨_, rfl, a, D, g0, d0, _, _, _, rfl, xD, T.Z, Sb14 _ _ eD, fD _ Sb14, .own _, T.tab i 30 _ _ hD rfl, ?_⟩
    refine ⟨_, rfl, a, D, g0, d0, _, _, _, rfl, xD, T.Z, Sb14 _ _ eD, fD _ Sb14, .own _, T.tab i 31 _ _ hD rfl, ?_⟩
    refine ⟨line_of (by simp), fun l15 nl15 => ?_⟩
    obtain ⟨Ha15, hh, Sa15, ta15, e15⟩ := knew (o := .lst [.bl (decide (i = 30)), .bl (decide (i = 31))]) Sb14 nl15
    rw [hh]
    have ef15 := ta15 _ _ f14e
    clear hh ta15 nl15 Sb14 f14e
    refine ⟨f14, l15, _, _, rfl, rfl, ef15, e15, line_of (by simp), fun f15 nf15 => ?_⟩
    obtain ⟨Hb15, hh, Sb15, tb15, f15e⟩ := knew (o := .lst ([.bl (decide (i = 0)), .bl (decide (i = 1)), .bl (decide (i = 2)), .bl (decide (i = 3)), .bl (decide (i = 4)), .bl (decide (i = 5)), .bl (decide (i = 6)), .bl (decide (i = 7)), .bl (decide (i = 8)), .bl (decide (i = 9)), .bl (decide (i = 10)), .bl (decide (i = 11)), .bl (decide (i = 12)), .bl (decide (i = 13)), .bl (decide (i = 14)), .bl (decide (i = 15)), .bl (decide (i = 16)), .bl (decide (i = 17)), .bl (decide (i = 18)), .bl (decide (i = 19)), .bl (decide (i = 20)), .bl (decide (i = 21)), .bl (decide (i = 22)), .bl (decide (i = 23)), .bl (decide (i = 24)), .bl (decide (i = 25)), .bl (decide (i = 26)), .bl (decide (i = 27)), .bl (decide (i = 28)), .bl (decide (i = 29))] ++ [.bl (decide (i = 30)), .bl (decide (i = 31))])) Sa15 nf15
    rw [hh]
    clear hh tb15 nf15 Sa15 ef15 e15
    rw [show ([.bl (decide (i = 0)), .bl (decide (i = 1)), .bl (decide (i = 2)), .bl (decide (i = 3)), .bl (decide (i = 4)), .bl (decide (i = 5)), .bl (decide (i = 6)), .bl (decide (i = 7)), .bl (decide (i = 8)), .bl (decide (i = 9)), .bl (decide (i = 10)), .bl (decide (i = 11)), .bl (decide (i = 12)), .bl (decide (i = 13)), .bl (decide (i = 14)), .bl (decide (i = 15)), .bl (decide (i = 16)), .bl (decide (i = 17)), .bl (decide (i = 18)), .bl (decide (i = 19)), .bl (decide (i = 20)), .bl (decide (i = 21)), .bl (decide (i = 22)), .bl (decide (i = 23)), .bl (decide (i = 24)), .bl (decide (i = 25)), .bl (decide (i = 26)), .bl (decide (i = 27)), .bl (decide (i = 28)), .bl (decide (i = 29))] ++ [.bl (decide (i = 30)), .bl (decide (i = 31))]) = ([.bl (decide (i = 0)), .bl (decide (i = 1)), .bl (decide (i = 2)), .bl (decide (i = 3)), .bl (decide (i = 4)), .bl (decide (i = 5)), .bl (decide (i = 6)), .bl (decide (i = 7)), .bl (decide (i = 8)), .bl (decide (i = 9)), .bl (decide (i = 10)), .bl (decide (i = 11)), .bl (decide (i = 12)), .bl (decide (i = 13)), .bl (decide (i = 14)), .bl (decide (i = 15)), .bl (decide (i = 16)), .bl (decide (i = 17)), .bl (decide (i = 18)), .bl (decide (i = 19)), .bl (decide (i = 20)), .bl (decide (i = 21)), .bl (decide (i = 22)), .bl (decide (i = 23)), .bl (decide (i = 24)), .bl (decide (i = 25)), .bl (decide (i = 26)), .bl (decide (i = 27)), .bl (decide (i = 28)), .bl (decide (i = 29)), .bl (decide (i = 30)), .bl (decide (i = 31))] : List V) from rfl] at f15e
    show tSeq _ _ _ ([some (.ref a), some (.ref f15), none, none] : L2.St) _
    refine ⟨_, rfl, ?_⟩
    refine ⟨_, rfl, a, D, g0, d0, _, _, _, rfl, xD, T.Z, Sb15 _ _ eD, fD _ Sb15, .own _, T.tab i 32 _ _ hD rfl, ?_⟩
    refine ⟨line_of (by simp), fun l16 nl16 => ?_⟩
    obtain ⟨Ha16, hh, Sa16, ta16, e16⟩ := knew (o := .lst [.bl (decide (i = 32))]) Sb15 nl16
    rw [hh]
    have ef16 := ta16 _ _ f15e
    clear hh ta16 nl16 Sb15 f15e
    refine ⟨f15, l16, _, _, rfl, rfl, ef16, e16, line_of (by simp), fun f16 nf16 => ?_⟩
    obtain ⟨Hb16, hh, Sb16, tb16, f16e⟩ := knew (o := .lst ([.bl (decide (i = 0)), .bl (decide (i = 1)), .bl (decide (i = 2)), .bl (decide (i = 3)), .bl (decide (i = 4)), .bl (decide (i = 5)), .bl (decide (i = 6)), .bl (decide (i = 7)), .bl (decide (i = 8)), .bl (decide (i = 9)), .bl (decide (i = 10)), .bl (decide (i = 11)), .bl (decide (i = 12)), .bl (decide (i = 13)), .bl (decide (i = 14)), .bl (decide (i = 15)), .bl (decide (i = 16)), .bl (decide (i = 17)), .bl (decide (i = 18)), .bl (decide (i = 19)), .bl (decide (i = 20)), .bl (decide (i = 21)), .bl (decide (i = 22)), .bl (decide (i = 23)), .bl (decide (i = 24)), .bl (decide (i = 25)), .bl (decide (i = 26)), .bl (decide (i = 27)), .bl (decide (i = 28)), .bl (decide (i = 29)), .bl (decide (i = 30)), .bl (decide (i = 31))] ++ [.bl (decide (i = 32))])) Sa16 nf16
    rw [hh]
    clear hh tb16 nf16 Sa16 ef16 e16
    rw [show ([.bl (decide (i = 0)), .bl (decide (i = 1)), .bl (decide (i = 2)), .bl (decide (i = 3)), .bl (decide (i = 4)), .bl (decide (i = 5)), .bl (decide (i = 6)), .bl (decide (i = 7)), .bl (decide (i = 8)), .bl (decide (i = 9)), .bl (decide (i = 10)), .bl (decide (i = 11)), .bl (decide (i = 12)), .bl (decide (i = 13)), .bl (decide (i = 14)), .bl (decide (i = 15)), .bl (decide (i = 16)), .bl (decide (i = 17)), .bl (decide (i = 18)), .bl (decide (i = 19)), .bl (decide (i = 20)), .bl (decide (i = 21)), .bl (decide (i = 22)), .bl (decide (i = 23)), .bl (decide (i = 24)), .bl (decide (i = 25)), .bl (decide (i = 26)), .bl (decide (i = 27)), .bl (decide (i = 28)), .bl (decide (i = 29)), .bl (decide (i = 30)), .bl (decide (i = 31))] ++ [.bl (decide (i = 32))]) = ([.bl (decide (i = 0)), .bl (decide (i = 1)), .bl (decide (i = 2)), .bl (decide (i = 3)), .bl (decide (i = 4)), .bl (decide (i = 5)), .bl (decide (i = 6)), .bl (decide (i = 7)), .bl (decide (i = 8)), .bl (decide (i = 9)), .bl (decide (i = 10)), .bl (decide (i = 11)), .bl (decide (i = 12)), .bl (decide (i = 13)), .bl (decide (i = 14)), .bl (decide (i = 15)), .bl (decide (i = 16)), .bl (decide (i = 17)), .bl (decide (i = 18)), .bl (decide (i = 19)), .bl (decide (i = 20)), .bl (decide (i = 21)), .bl (decide (i = 22)), .bl (decide (i = 23)), .bl (decide (i = 24)), .bl (decide (i = 25)), .bl (decide (i = 26)), .bl (decide (i = 27)), .bl (decide (i = 28)), .bl (decide (i = 29)), .bl (decide (i = 30)), .bl (decide (i = 31)), .bl (decide (i = 32))] : List V) from rfl] at f16e
    dsimp only [gName]
    show tRet _ _ ([some (.ref a), some (.ref f16), none, none] : L2.St) _
    have ef := f16e
    have S := Sb16
    have eb : [.bl (decide (i = 0)), .bl (decide (i = 1)), .bl (decide (i = 2)), .bl (decide (i = 3)), .bl (decide (i = 4)), .bl (decide (i = 5)), .bl (decide (i = 6)), .bl (decide (i = 7)), .bl (decide (i = 8)), .bl (decide (i = 9)), .bl (decide (i = 10)), .bl (decide (i = 11)), .bl (decide (i = 12)), .bl (decide (i = 13)), .bl (decide (i = 14)), .bl (decide (i = 15)), .bl (decide (i = 16)), .bl (decide (i = 17)), .bl (decide (i = 18)), .bl (decide (i = 19)), .bl (decide (i = 20)), .bl (decide (i = 21)), .bl (decide (i = 22)), .bl (decide (i = 23)), .bl (decide (i = 24)), .bl (decide (i = 25)), .bl (decide (i = 26)), .bl (decide (i = 27)), .bl (decide (i = 28)), .bl (decide (i = 29)), .bl (decide (i = 30)), .bl (decide (i = 31)), .bl (decide (i = 32))] = (List.range 33).map fun j => V.bl (decide (i = j)) := rfl
    rw [eb] at ef
    refine ⟨_, rfl, f16, _, rfl, SqL.of ef, fun D nD => lc_it walk_enum (fun k H2 => Same Hb16 H2 ∧ H2 D = some (.lst (if i < k then [.int (i : Int)] else []))) ⟨same_upd nD, by rw [if_neg (Nat.not_lt_zero _)]; exact upd_same⟩ (fun _ _ _ h => SqL.of (h.1 _ _ ef)) ?_ ?_⟩
    · rintro k x H2 H3 hk ⟨s1, hD⟩ ⟨t, x1, x2, rfl, nt, rfl, hx, hy⟩
      have hk33 : k < 33 := by simpa using hk
      have ex : x1 = .int (k : Int) := (Option.some.inj hx).symm
      have ey : x2 = .bl (decide (i = k)) := by
        have z : ((List.range 33).map fun j => V.bl (decide (i = j)))[k]? = some (V.bl (decide (i = k))) := by
          rw [List.getElem?_map, List.getElem?_range hk33]
          rfl
        exact Option.some.inj (hy.symm.trans z)
      subst ex
      subst ey
      obtain ⟨H3, hh, s3, t3, e3⟩ := knew (o := .tup [.int (k : Int), .bl (decide (i = k))]) s1 nt
      rw [hh]
      clear hh
      have hD3 := t3 _ _ hD
      refine ⟨t, _, rfl, SqT.of e3, rfl, _, _, rfl, _, _, rfl, rfl, rfl, _, rfl, _, rfl, ?_⟩
      by_cases hik : i = k
      · rw [decide_eq_true hik]
        refine iteT (B := (fun _ => True) hik) ?_
        refine ⟨_, rfl, _, hD3, by rw [if_neg (by omega)]; decide, fun b o z => ?_, ?_⟩
        · rw [upd_ne (ne_of_none z nD)]
          exact s3 b o z
        · rw [upd_same, if_neg (by omega), if_pos (by omega), hik]
          rfl
      · rw [decide_eq_false hik]
        refine iteF ⟨s3, ?_⟩
        rw [hD3]
        by_cases hlt : i < k
        · rw [if_pos hlt, if_pos (by omega)]
        · rw [if_neg hlt, if_neg (by omega)]
    · rintro H2 ⟨s1, hD⟩
      refine q D H2 (S.trans s1) ?_
      rw [hD, if_pos (by simpa using hi)]
theorem ok__law_is_based (T : Txt K mg) : FnOk P w K mg base CX0 1 T.f__law_is_based T.fd__law_is_based ["_law_error"] (spBased K T.cls) := by
  have nd := sc__law_is_based.nd
  refine T.F__law_is_based.ok sc__law_is_based (fun vs H Q E h => ?_) (fun cdv A outer s H vs Q E hr h => ?_)
  · obtain ⟨a, i, rfl, _⟩ := h; rfl
  · obtain ⟨a, i, rfl, e, q⟩ := h
    have hu := hu_of hr
    refine ⟨_, (pss_cons (ps_set (i := 1) nd rfl (Or.inl rfl) (pe_callB call_isXT (by rfl) T.n_isinstance (by decide +kernel) (pa_cons (pv 0) (pa_cons (pe_tup (pa_cons (pe_bltn (v := .ty "KeyError") (u := .type "KeyError") (by rfl) T.n_KeyError (by decide +kernel) rfl) (pa_cons (pe_bltn (v := .ty "IndexError") (u := .type "IndexError") (by rfl) T.n_IndexError (by decide +kernel) rfl) (pa_cons (pe_bltn (v := .ty "LookupError") (u := .type "LookupError") (by rfl) T.n_LookupError (by decide +kernel) rfl) (pa_cons (pe_bltn (v := .ty "ArithmeticError") (u := .type "ArithmeticError") (by rfl) T.n_ArithmeticError (by decide +kernel) rfl) (pa_cons (pe_bltn (v := .ty "OverflowError") (u := .type "OverflowError") (by rfl) T.n_OverflowError (by decide +kernel) rfl) pa_nil)))))) pa_nil))))
        (pss_cons (ps_set (i := 1) nd rfl (Or.inl rfl) (pe_or (pv 1) (pe_one (pe_callB call_isXT (by rfl) T.n_isinstance (by decide +kernel) (pa_cons (pv 0) (pa_cons (pe_tup (pa_cons (pe_bltn (v := .ty "TypeError") (u := .type "TypeError") (by rfl) T.n_TypeError (by decide +kernel) rfl) (pa_cons (pe_bltn (v := .ty "RuntimeError") (u := .type "RuntimeError") (by rfl) T.n_RuntimeError (by decide +kernel) rfl) pa_nil))) pa_nil))))))
        (pss_one (ps_ret (pe_and (pe_callB call_isX (by rfl) T.n_isinstance (by decide +kernel) (pa_cons (pv 0) (pa_cons (pe_glob (v := .ref T.c_OrError) (by rfl) T.m_OrError rfl) pa_nil))) (pe_and (pe_callB call_isX (by rfl) T.n_isinstance (by decide +kernel) (pa_cons (pv 0) (pa_cons (pe_bltn (v := .ty "ValueError") (u := .type "ValueError") (by rfl) T.n_ValueError (by decide +kernel) rfl) pa_nil))) (pe_one (pe_not (pv 1))))))))), ?_⟩
    obtain ⟨D, g0, d0, hD, xD, eD, fD0⟩ := e
    have fD : ∀ (Hk : Hp), Same H Hk → ∀ dd, d0 = some dd → ∃ fs, Hk dd = some (exd dd fs) := fun Hk s dd q => let ⟨fs, z⟩ := fD0 dd q; ⟨fs, s _ _ z⟩
    have S : Same H H := Same.refl H
    
    refine ⟨_, rfl, line_of (by simp), fun t1 nt1 => ?_⟩
    obtain ⟨H1, hh, S1, s1, e1⟩ := knew (o := .tup [.ty "KeyError", .ty "IndexError", .ty "LookupError", .ty "ArithmeticError", .ty "OverflowError"]) S nt1
    rw [hh]
    refine ⟨a, D, g0, t1, d0, _, _, _, rfl, xD, T.Z, S1 _ _ eD, fD _ S1, e1, .cons (.ty _) (.cons (.ty _) (.cons (.ty _) (.cons (.ty _) (.cons (.ty _) .nil)))), T.tn1 D (List.mem_of_getElem? hD), ?_⟩
    refine ⟨_, rfl, _, rfl, ?_⟩
    refine iteF ?_
    refine ⟨_, rfl, line_of (by simp), fun t2 nt2 => ?_⟩
    obtain ⟨H2, hh2, S2, s2, e2⟩ := knew (o := .tup [.ty "TypeError", .ty "RuntimeError"]) S1 nt2
    rw [hh2]
    refine ⟨a, D, g0, t2, d0, _, _, _, rfl, xD, T.Z, S2 _ _ eD, fD _ S2, e2, .cons (.ty _) (.cons (.ty _) .nil), T.tn2 D (List.mem_of_getElem? hD), ?_⟩
    refine ⟨_, rfl, a, D, g0, d0, _, _, _, rfl, xD, T.Z, S2 _ _ eD, fD _ S2, .own _, T.tor D (List.mem_of_getElem? hD), _, rfl, ?_⟩
    refine iteT (B := (fun _ => Q (.bl false) H2) True) ?_
    refine ⟨_, rfl, a, D, g0, d0, _, _, _, rfl, xD, T.Z, S2 _ _ eD, fD _ S2, .ty _, T.tve D (List.mem_of_getElem? hD), _, rfl, ?_⟩
    refine iteT (B := (fun _ => Q (.bl false) H2) True) ?_
    refine ⟨_, rfl, _, rfl, ?_⟩
    exact q _ S2
theorem ok__law_values (T : Txt K mg) : FnOk P w K mg base CX0 3 T.f__law_values T.fd__law_values ["_law_left"] (spVals K T.cls 0 12) := by
  have nd := sc__law_values.nd
  refine T.F__law_values.ok sc__law_values (fun vs H Q E h => ?_) (fun cdv A outer s H vs Q E hr h => ?_)
  · obtain ⟨v, rfl, _⟩ := h; rfl
  · obtain ⟨v, rfl, q⟩ := h
    have hu := hu_of hr
    refine ⟨_, (pss_cons (ps_set (i := 1) nd rfl (Or.inl rfl) (pe_lst pa_nil))
        (pss_cons (ps_expr (pe_bm PySem.F.plainAttrs_list PySem.F.slot_list_append PySem.F.type_list_append mt_append (pv 1) (pa_cons (pe_tup (pa_cons (pe_excV T.ex_InvalidName (ok_InvalidName_init T) (hr.mono (by decide)) T.b_InvalidName_init (by rfl) T.m_InvalidName (pa_cons (pv 0) pa_nil)) (pa_cons (pe_att (pe_excV T.ex_InvalidName (ok_InvalidName_init T) (hr.mono (by decide)) T.b_InvalidName_init (by rfl) T.m_InvalidName (pa_cons (pv 0) pa_nil))) pa_nil))) pa_nil)))
        (pss_cons (ps_expr (pe_bm PySem.F.plainAttrs_list PySem.F.slot_list_append PySem.F.type_list_append mt_append (pv 1) (pa_cons (pe_tup (pa_cons (pe_excV T.ex_InvalidNumber (ok_InvalidNumber_init T) (hr.mono (by decide)) T.b_InvalidNumber_init (by rfl) T.m_InvalidNumber (pa_cons (pv 0) pa_nil)) (pa_cons (pe_att (pe_excV T.ex_InvalidNumber (ok_InvalidNumber_init T) (hr.mono (by decide)) T.b_InvalidNumber_init (by rfl) T.m_InvalidNumber (pa_cons (pv 0) pa_nil))) pa_nil))) pa_nil)))
        (pss_cons (ps_expr (pe_bm PySem.F.plainAttrs_list PySem.F.slot_list_append PySem.F.type_list_append mt_append (pv 1) (pa_cons (pe_tup (pa_cons (pe_excV T.ex_InvalidRow (ok_InvalidRow_init T) (hr.mono (by decide)) T.b_InvalidRow_init (by rfl) T.m_InvalidRow (pa_cons (pv 0) pa_nil)) (pa_cons (pe_att (pe_excV T.ex_InvalidRow (ok_InvalidRow_init T) (hr.mono (by decide)) T.b_InvalidRow_init (by rfl) T.m_InvalidRow (pa_cons (pv 0) pa_nil))) pa_nil))) pa_nil)))
        (pss_cons (ps_expr (pe_bm PySem.F.plainAttrs_list PySem.F.slot_list_append PySem.F.type_list_append mt_append (pv 1) (pa_cons (pe_tup (pa_cons (pe_excV T.ex_NoTarget (ok_NoTarget_init T) (hr.mono (by decide)) T.b_NoTarget_init (by rfl) T.m_NoTarget (pa_cons (pv 0) pa_nil)) (pa_cons (pe_att (pe_excV T.ex_NoTarget (ok_NoTarget_init T) (hr.mono (by decide)) T.b_NoTarget_init (by rfl) T.m_NoTarget (pa_cons (pv 0) pa_nil))) pa_nil))) pa_nil)))
        (pss_cons (ps_expr (pe_bm PySem.F.plainAttrs_list PySem.F.slot_list_append PySem.F.type_list_append mt_append (pv 1) (pa_cons (pe_tup (pa_cons (pe_excV T.ex_NoClass (ok_NoClass_init T) (hr.mono (by decide)) T.b_NoClass_init (by rfl) T.m_NoClass (pa_cons (pv 0) pa_nil)) (pa_cons (pe_att (pe_excV T.ex_NoClass (ok_NoClass_init T) (hr.mono (by decide)) T.b_NoClass_init (by rfl) T.m_NoClass (pa_cons (pv 0) pa_nil))) pa_nil))) pa_nil)))
        (pss_cons (ps_expr (pe_bm PySem.F.plainAttrs_list PySem.F.slot_list_append PySem.F.type_list_append mt_append (pv 1) (pa_cons (pe_tup (pa_cons (pe_excV T.ex_NoLanding (ok_NoLanding_init T) (hr.mono (by decide)) T.b_NoLanding_init (by rfl) T.m_NoLanding (pa_cons (pv 0) pa_nil)) (pa_cons (pe_att (pe_excV T.ex_NoLanding (ok_NoLanding_init T) (hr.mono (by decide)) T.b_NoLanding_init (by rfl) T.m_NoLanding (pa_cons (pv 0) pa_nil))) pa_nil))) pa_nil)))
        (pss_cons (ps_expr (pe_bm PySem.F.plainAttrs_list PySem.F.slot_list_append PySem.F.type_list_append mt_append (pv 1) (pa_cons (pe_tup (pa_cons (pe_excV T.ex_InvalidRows (ok_InvalidRows_init T) (hr.mono (by decide)) T.b_InvalidRows_init (by rfl) T.m_InvalidRows (pa_cons (pv 0) pa_nil)) (pa_cons (pe_att (pe_excV T.ex_InvalidRows (ok_InvalidRows_init T) (hr.mono (by decide)) T.b_InvalidRows_init (by rfl) T.m_InvalidRows (pa_cons (pv 0) pa_nil))) pa_nil))) pa_nil)))
        (pss_cons (ps_expr (pe_bm PySem.F.plainAttrs_list PySem.F.slot_list_append PySem.F.type_list_append mt_append (pv 1) (pa_cons (pe_tup (pa_cons (pe_excV T.ex_InvalidKind (ok_InvalidKind_init T) (hr.mono (by decide)) T.b_InvalidKind_init (by rfl) T.m_InvalidKind (pa_cons (pv 0) pa_nil)) (pa_cons (pe_att (pe_excV T.ex_InvalidKind (ok_InvalidKind_init T) (hr.mono (by decide)) T.b_InvalidKind_init (by rfl) T.m_InvalidKind (pa_cons (pv 0) pa_nil))) pa_nil))) pa_nil)))
        (pss_cons (ps_expr (pe_bm PySem.F.plainAttrs_list PySem.F.slot_list_append PySem.F.type_list_append mt_append (pv 1) (pa_cons (pe_tup (pa_cons (pe_excV T.ex_InvalidFrame (ok_InvalidFrame_init T) (hr.mono (by decide)) T.b_InvalidFrame_init (by rfl) T.m_InvalidFrame (pa_cons (pv 0) pa_nil)) (pa_cons (pe_att (pe_excV T.ex_InvalidFrame (ok_InvalidFrame_init T) (hr.mono (by decide)) T.b_InvalidFrame_init (by rfl) T.m_InvalidFrame (pa_cons (pv 0) pa_nil))) pa_nil))) pa_nil)))
        (pss_cons (ps_expr (pe_bm PySem.F.plainAttrs_list PySem.F.slot_list_append PySem.F.type_list_append mt_append (pv 1) (pa_cons (pe_tup (pa_cons (pe_excV T.ex_InvalidWord (ok_InvalidWord_init T) (hr.mono (by decide)) T.b_InvalidWord_init (by rfl) T.m_InvalidWord (pa_cons (pv 0) pa_nil)) (pa_cons (pe_att (pe_excV T.ex_InvalidWord (ok_InvalidWord_init T) (hr.mono (by decide)) T.b_InvalidWord_init (by rfl) T.m_InvalidWord (pa_cons (pv 0) pa_nil))) pa_nil))) pa_nil)))
        (pss_cons (ps_expr (pe_bm PySem.F.plainAttrs_list PySem.F.slot_list_append PySem.F.type_list_append mt_append (pv 1) (pa_cons (pe_tup (pa_cons (pe_excV T.ex_NotReady (ok_NotReady_init T) (hr.mono (by decide)) T.b_NotReady_init (by rfl) T.m_NotReady (pa_cons (pv 0) pa_nil)) (pa_cons (pe_att (pe_excV T.ex_NotReady (ok_NotReady_init T) (hr.mono (by decide)) T.b_NotReady_init (by rfl) T.m_NotReady (pa_cons (pv 0) pa_nil))) pa_nil))) pa_nil)))
        (pss_cons (ps_expr (pe_bm PySem.F.plainAttrs_list PySem.F.slot_list_append PySem.F.type_list_append mt_append (pv 1) (pa_cons (pe_tup (pa_cons (pe_excV T.ex_TooMany (ok_TooMany_init T) (hr.mono (by decide)) T.b_TooMany_init (by rfl) T.m_TooMany (pa_cons (pv 0) pa_nil)) (pa_cons (pe_att (pe_excV T.ex_TooMany (ok_TooMany_init T) (hr.mono (by decide)) T.b_TooMany_init (by rfl) T.m_TooMany (pa_cons (pv 0) pa_nil))) pa_nil))) pa_nil)))
        (pss_one (ps_ret (pv 1)))))))))))))))), ?_⟩
    refine ⟨line_of (by decide), fun l nl => ?_⟩
    obtain ⟨H0, hh, S, s0, e⟩ := knew (o := .lst []) (Same.refl H) nl
    rw [hh]
    clear hh s0
    obtain ⟨ts, e, n, E⟩ : ∃ ts : List Addr, H0 l = some (.lst (ts.map V.ref)) ∧ ts.length = 0 ∧ Ents K T.cls H0 v ts 0 := ⟨[], e, rfl, fun j t h => by cases h⟩
    refine ⟨_, rfl, .inl ⟨rfl, _, SqL.of e⟩, ?_⟩
    refine ⟨_, rfl, by show 1 ≤ 1000; decide, fun a na => ⟨a, [v], rfl, rfl, upd_same, fun d H1 nd ne ha hd oth => ⟨rfl, ?_⟩⟩⟩
    have s1 := mk_same na nd ne oth
    refine ⟨_, rfl, by show 1 ≤ 1000; decide, fun a2 na2 => ⟨a2, [v], rfl, rfl, upd_same, fun d2 H2 nd2 ne2 ha2 hd2 oth2 => ⟨rfl, ?_⟩⟩⟩
    have s2 := mk_same na2 nd2 ne2 oth2
    refine ⟨a2, T.c_InvalidName, T.f_InvalidName_init, d2, _, v, rfl, T.ex_InvalidName, T.no_InvalidName_value, ha2, hd2, rfl, line_of (by simp), fun t nt => ?_⟩
    obtain ⟨H3, hh, S3, s3, et⟩ := knew (o := .tup [.ref a, v]) (s1.trans s2) nt
    rw [hh]
    refine ⟨l, _, _, rfl, rfl, S3 _ _ e, by rw [List.length_map, n]; decide, ?_⟩
    have en : Ent K T.cls H3 v t (0 + 0) := ⟨a, et, T.c_InvalidName, T.f_InvalidName_init, some d, rfl, T.ex_InvalidName, s3 _ _ (s2 _ _ ha), fun dd z => by cases z; exact ⟨_, s3 _ _ (s2 _ _ hd)⟩⟩
    obtain ⟨ts2, H4, hh4, e4, n4, E4, S4⟩ := vstep nl e n E S S3 en
    rw [← hh4]
    clear hh hh4 en s1 s2 s3 S3 et na nd ne oth na2 nd2 ne2 oth2 ha hd ha2 hd2 nt e n E S
    have ⟨ts, H0, e, n, E, S, hq⟩ : ∃ (ts : List Addr) (H0 : Hp), H0 l = some (.lst (ts.map V.ref)) ∧ ts.length = 1 ∧ Ents K T.cls H0 v ts 0 ∧ Same H H0 ∧ H4 = H0 := ⟨ts2, H4, e4, n4, E4, S4, rfl⟩
    rw [hq]
    clear hq e4 n4 E4 S4
    refine ⟨_, rfl, .inl ⟨rfl, _, SqL.of e⟩, ?_⟩
    refine ⟨_, rfl, by show 1 ≤ 1000; decide, fun a na => ⟨a, [v], rfl, rfl, upd_same, fun d H1 nd ne ha hd oth => ⟨rfl, ?_⟩⟩⟩
    have s1 := mk_same na nd ne oth
    refine ⟨_, rfl, by show 1 ≤ 1000; decide, fun a2 na2 => ⟨a2, [v], rfl, rfl, upd_same, fun d2 H2 nd2 ne2 ha2 hd2 oth2 => ⟨rfl, ?_⟩⟩⟩
    have s2 := mk_same na2 nd2 ne2 oth2
    refine ⟨a2, T.c_InvalidNumber, T.f_InvalidNumber_init, d2, _, v, rfl, T.ex_InvalidNumber, T.no_InvalidNumber_value, ha2, hd2, rfl, line_of (by simp), fun t nt => ?_⟩
    obtain ⟨H3, hh, S3, s3, et⟩ := knew (o := .tup [.ref a, v]) (s1.trans s2) nt
    rw [hh]
    refine ⟨l, _, _, rfl, rfl, S3 _ _ e, by rw [List.length_map, n]; decide, ?_⟩
    have en : Ent K T.cls H3 v t (0 + 1) := ⟨a, et, T.c_InvalidNumber, T.f_InvalidNumber_init, some d, rfl, T.ex_InvalidNumber, s3 _ _ (s2 _ _ ha), fun dd z => by cases z; exact ⟨_, s3 _ _ (s2 _ _ hd)⟩⟩
    obtain ⟨ts2, H4, hh4, e4, n4, E4, S4⟩ := vstep nl e n E S S3 en
    rw [← hh4]
    clear hh hh4 en s1 s2 s3 S3 et na nd ne oth na2 nd2 ne2 oth2 ha hd ha2 hd2 nt e n E S
    have ⟨ts, H0, e, n, E, S, hq⟩ : ∃ (ts : List Addr) (H0 : Hp), H0 l = some (.lst (ts.map V.ref)) ∧ ts.length = 2 ∧ Ents K T.cls H0 v ts 0 ∧ Same H H0 ∧ H4 = H0 := ⟨ts2, H4, e4, n4, E4, S4, rfl⟩
    rw [hq]
    clear hq e4 n4 E4 S4
    refine ⟨_, rfl, .inl ⟨rfl, _, SqL.of e⟩, ?_⟩
    refine ⟨_, rfl, by show 1 ≤ 1000; decide, fun a na => ⟨a, [v], rfl, rfl, upd_same, fun d H1 nd ne ha hd oth => ⟨rfl, ?_⟩⟩⟩
    have s1 := mk_same na nd ne oth
    refine ⟨_, rfl, by show 1 ≤ 1000; decide, fun a2 na2 => ⟨a2, [v], rfl, rfl, upd_same, fun d2 H2 nd2 ne2 ha2 hd2 oth2 => ⟨rfl, ?_⟩⟩⟩
    have s2 := mk_same na2 nd2 ne2 oth2
    refine ⟨a2, T.c_InvalidRow, T.f_InvalidRow_init, d2, _, v, rfl, T.ex_InvalidRow, T.no_InvalidRow_value, ha2, hd2, rfl, line_of (by simp), fun t nt => ?_⟩
    obtain ⟨H3, hh, S3, s3, et⟩ := knew (o := .tup [.ref a, v]) (s1.trans s2) nt
    rw [hh]
    refine ⟨l, _, _, rfl, rfl, S3 _ _ e, by rw [List.length_map, n]; decide, ?_⟩
    have en : Ent K T.cls H3 v t (0 + 2) := ⟨a, et, T.c_InvalidRow, T.f_InvalidRow_init, some d, rfl, T.ex_InvalidRow, s3 _ _ (s2 _ _ ha), fun dd z => by cases z; exact ⟨_, s3 _ _ (s2 _ _ hd)⟩⟩
    obtain ⟨ts2, H4, hh4, e4, n4, E4, S4⟩ := vstep nl e n E S S3 en
    rw [← hh4]
    clear hh hh4 en s1 s2 s3 S3 et na nd ne oth na2 nd2 ne2 oth2 ha hd ha2 hd2 nt e n E S
    have ⟨ts, H0, e, n, E, S, hq⟩ : ∃ (ts : List Addr) (H0 : Hp), H0 l = some (.lst (ts.map V.ref)) ∧ ts.length = 3 ∧ Ents K T.cls H0 v ts 0 ∧ Same H H0 ∧ H4 = H0 := ⟨ts2, H4, e4, n4, E4, S4, rfl⟩
    rw [hq]
    clear hq e4 n4 E4 S4
    refine ⟨_, rfl, .inl ⟨rfl, _, SqL.of e⟩, ?_⟩
    refine ⟨_, rfl, by show 1 ≤ 1000; decide, fun a na => ⟨a, [v], rfl, rfl, upd_same, fun d H1 nd ne ha hd oth => ⟨rfl, ?_⟩⟩⟩
    have s1 := mk_same na nd ne oth
    refine ⟨_, rfl, by show 1 ≤ 1000; decide, fun a2 na2 => ⟨a2, [v], rfl, rfl, upd_same, fun d2 H2 nd2 ne2 ha2 hd2 oth2 => ⟨rfl, ?_⟩⟩⟩
    have s2 := mk_same na2 nd2 ne2 oth2
    refine ⟨a2, T.c_NoTarget, T.f_NoTarget_init, d2, _, v, rfl, T.ex_NoTarget, T.no_NoTarget_value, ha2, hd2, rfl, line_of (by simp), fun t nt => ?_⟩
    obtain ⟨H3, hh, S3, s3, et⟩ := knew (o := .tup [.ref a, v]) (s1.trans s2) nt
    rw [hh]
    refine ⟨l, _, _, rfl, rfl, S3 _ _ e, by rw [List.length_map, n]; decide, ?_⟩
    have en : Ent K T.cls H3 v t (0 + 3) := ⟨a, et, T.c_NoTarget, T.f_NoTarget_init, some d, rfl, T.ex_NoTarget, s3 _ _ (s2 _ _ ha), fun dd z => by cases z; exact ⟨_, s3 _ _ (s2 _ _ hd)⟩⟩
    obtain ⟨ts2, H4, hh4, e4, n4, E4, S4⟩ := vstep nl e n E S S3 en
    rw [← hh4]
    clear hh hh4 en s1 s2 s3 S3 et na nd ne oth na2 nd2 ne2 oth2 ha hd ha2 hd2 nt e n E S
    have ⟨ts, H0, e, n, E, S, hq⟩ : ∃ (ts : List Addr) (H0 : Hp), H0 l = some (.lst (ts.map V.ref)) ∧ ts.length = 4 ∧ Ents K T.cls H0 v ts 0 ∧ Same H H0 ∧ H4 = H0 := ⟨ts2, H4, e4, n4, E4, S4, rfl⟩
    rw [hq]
    clear hq e4 n4 E4 S4
    refine ⟨_, rfl, .inl ⟨rfl, _, SqL.of e⟩, ?_⟩
    refine ⟨_, rfl, by show 1 ≤ 1000; decide, fun a na => ⟨a, [v], rfl, rfl, upd_same, fun d H1 nd ne ha hd oth => ⟨rfl, ?_⟩⟩⟩
    have s1 := mk_same na nd ne oth
    refine ⟨_, rfl, by show 1 ≤ 1000; decide, fun a2 na2 => ⟨a2, [v], rfl, rfl, upd_same, fun d2 H2 nd2 ne2 ha2 hd2 oth2 => ⟨rfl, ?_⟩⟩⟩
    have s2 := mk_same na2 nd2 ne2 oth2
    refine ⟨a2, T.c_NoClass, T.f_NoClass_init, d2, _, v, rfl, T.ex_NoClass, T.no_NoClass_value, ha2, hd2, rfl, line_of (by simp), fun t nt => ?_⟩
    obtain ⟨H3, hh, S3, s3, et⟩ := knew (o := .tup [.ref a, v]) (s1.trans s2) nt
    rw [hh]
    refine ⟨l, _, _, rfl, rfl, S3 _ _ e, by rw [List.length_map, n]; decide, ?_⟩
    have en : Ent K T.cls H3 v t (0 + 4) := ⟨a, et, T.c_NoClass, T.f_NoClass_init, some d, rfl, T.ex_NoClass, s3 _ _ (s2 _ _ ha), fun dd z => by cases z; exact ⟨_, s3 _ _ (s2 _ _ hd)⟩⟩
    obtain ⟨ts2, H4, hh4, e4, n4, E4, S4⟩ := vstep nl e n E S S3 en
    rw [← hh4]
    clear hh hh4 en s1 s2 s3 S3 et na nd ne oth na2 nd2 ne2 oth2 ha hd ha2 hd2 nt e n E S
    have ⟨ts, H0, e, n, E, S, hq⟩ : ∃ (ts : List Addr) (H0 : Hp), H0 l = some (.lst (ts.map V.ref)) ∧ ts.length = 5 ∧ Ents K T.cls H0 v ts 0 ∧ Same H H0 ∧ H4 = H0 := ⟨ts2, H4, e4, n4, E4, S4, rfl⟩
    rw [hq]
    clear hq e4 n4 E4 S4
    refine ⟨_, rfl, .inl ⟨rfl, _, SqL.of e⟩, ?_⟩
    refine ⟨_, rfl, by show 1 ≤ 1000; decide, fun a na => ⟨a, [v], rfl, rfl, upd_same, fun d H1 nd ne ha hd oth => ⟨rfl, ?_⟩⟩⟩
    have s1 := mk_same na nd ne oth
    refine ⟨_, rfl, by show 1 ≤ 1000; decide, fun a2 na2 => ⟨a2, [v], rfl, rfl, upd_same, fun d2 H2 nd2 ne2 ha2 hd2 oth2 => ⟨rfl, ?_⟩⟩⟩
    have s2 := mk_same na2 nd2 ne2 oth2
    refine ⟨a2, T.c_NoLanding, T.f_NoLanding_init, d2, _, v, rfl, T.ex_NoLanding, T.no_NoLanding_value, ha2, hd2, rfl, line_of (by simp), fun t nt => ?_⟩
    obtain ⟨H3, hh, S3, s3, et⟩ := knew (o := .tup [.ref a, v]) (s1.trans s2) nt
    rw [hh]
    refine ⟨l, _, _, rfl, rfl, S3 _ _ e, by rw [List.length_map, n]; decide, ?_⟩
    have en : Ent K T.cls H3 v t (0 + 5) := ⟨a, et, T.c_NoLanding, T.f_NoLanding_init, some d, rfl, T.ex_NoLanding, s3 _ _ (s2 _ _ ha), fun dd z => by cases z; exact ⟨_, s3 _ _ (s2 _ _ hd)⟩⟩
    obtain ⟨ts2, H4, hh4, e4, n4, E4, S4⟩ := vstep nl e n E S S3 en
    rw [← hh4]
    clear hh hh4 en s1 s2 s3 S3 et na nd ne oth na2 nd2 ne2 oth2 ha hd ha2 hd2 nt e n E S
    have ⟨ts, H0, e, n, E, S, hq⟩ : ∃ (ts : List Addr) (H0 : Hp), H0 l = some (.lst (ts.map V.ref)) ∧ ts.length = 6 ∧ Ents K T.cls H0 v ts 0 ∧ Same H H0 ∧ H4 = H0 := ⟨ts2, H4, e4, n4, E4, S4, rfl⟩
    rw [hq]
    clear hq e4 n4 E4 S4
    refine ⟨_, rfl, .inl ⟨rfl, _, SqL.of e⟩, ?_⟩
    refine ⟨_, rfl, by show 1 ≤ 1000; decide, fun a na => ⟨a, [v], rfl, rfl, upd_same, fun d H1 nd ne ha hd oth => ⟨rfl, ?_⟩⟩⟩
    have s1 := mk_same na nd ne oth
    refine ⟨_, rfl, by show 1 ≤ 1000; decide, fun a2 na2 => ⟨a2, [v], rfl, rfl, upd_same, fun d2 H2 nd2 ne2 ha2 hd2 oth2 => ⟨rfl, ?_⟩⟩⟩
    have s2 := mk_same na2 nd2 ne2 oth2
    refine ⟨a2, T.c_InvalidRows, T.f_InvalidRows_init, d2, _, v, rfl, T.ex_InvalidRows, T.no_InvalidRows_part, ha2, hd2, rfl, line_of (by simp), fun t nt => ?_⟩
    obtain ⟨H3, hh, S3, s3, et⟩ := knew (o := .tup [.ref a, v]) (s1.trans s2) nt
    rw [hh]
    refine ⟨l, _, _, rfl, rfl, S3 _ _ e, by rw [List.length_map, n]; decide, ?_⟩
    have en : Ent K T.cls H3 v t (0 + 6) := ⟨a, et, T.c_InvalidRows, T.f_InvalidRows_init, some d, rfl, T.ex_InvalidRows, s3 _ _ (s2 _ _ ha), fun dd z => by cases z; exact ⟨_, s3 _ _ (s2 _ _ hd)⟩⟩
    obtain ⟨ts2, H4, hh4, e4, n4, E4, S4⟩ := vstep nl e n E S S3 en
    rw [← hh4]
    clear hh hh4 en s1 s2 s3 S3 et na nd ne oth na2 nd2 ne2 oth2 ha hd ha2 hd2 nt e n E S
    have ⟨ts, H0, e, n, E, S, hq⟩ : ∃ (ts : List Addr) (H0 : Hp), H0 l = some (.lst (ts.map V.ref)) ∧ ts.length = 7 ∧ Ents K T.cls H0 v ts 0 ∧ Same H H0 ∧ H4 = H0 := ⟨ts2, H4, e4, n4, E4, S4, rfl⟩
    rw [hq]
    clear hq e4 n4 E4 S4
    refine ⟨_, rfl, .inl ⟨rfl, _, SqL.of e⟩, ?_⟩
    refine ⟨_, rfl, by show 1 ≤ 1000; decide, fun a na => ⟨a, [v], rfl, rfl, upd_same, fun d H1 nd ne ha hd oth => ⟨rfl, ?_⟩⟩⟩
    have s1 := mk_same na nd ne oth
    refine ⟨_, rfl, by show 1 ≤ 1000; decide, fun a2 na2 => ⟨a2, [v], rfl, rfl, upd_same, fun d2 H2 nd2 ne2 ha2 hd2 oth2 => ⟨rfl, ?_⟩⟩⟩
    have s2 := mk_same na2 nd2 ne2 oth2
    refine ⟨a2, T.c_InvalidKind, T.f_InvalidKind_init, d2, _, v, rfl, T.ex_InvalidKind, T.no_InvalidKind_part, ha2, hd2, rfl, line_of (by simp), fun t nt => ?_⟩
    obtain ⟨H3, hh, S3, s3, et⟩ := knew (o := .tup [.ref a, v]) (s1.trans s2) nt
    rw [hh]
    refine ⟨l, _, _, rfl, rfl, S3 _ _ e, by rw [List.length_map, n]; decide, ?_⟩
    have en : Ent K T.cls H3 v t (0 + 7) := ⟨a, et, T.c_InvalidKind, T.f_InvalidKind_init, some d, rfl, T.ex_InvalidKind, s3 _ _ (s2 _ _ ha), fun dd z => by cases z; exact ⟨_, s3 _ _ (s2 _ _ hd)⟩⟩
    obtain ⟨ts2, H4, hh4, e4, n4, E4, S4⟩ := vstep nl e n E S S3 en
    rw [← hh4]
    clear hh hh4 en s1 s2 s3 S3 et na nd ne oth na2 nd2 ne2 oth2 ha hd ha2 hd2 nt e n E S
    have ⟨ts, H0, e, n, E, S, hq⟩ : ∃ (ts : List Addr) (H0 : Hp), H0 l = some (.lst (ts.map V.ref)) ∧ ts.length = 8 ∧ Ents K T.cls H0 v ts 0 ∧ Same H H0 ∧ H4 = H0 := ⟨ts2, H4, e4, n4, E4, S4, rfl⟩
    rw [hq]
    clear hq e4 n4 E4 S4
    refine ⟨_, rfl, .inl ⟨rfl, _, SqL.of e⟩, ?_⟩
    refine ⟨_, rfl, by show 1 ≤ 1000; decide, fun a na => ⟨a, [v], rfl, rfl, upd_same, fun d H1 nd ne ha hd oth => ⟨rfl, ?_⟩⟩⟩
    have s1 := mk_same na nd ne oth
    refine ⟨_, rfl, by show 1 ≤ 1000; decide, fun a2 na2 => ⟨a2, [v], rfl, rfl, upd_same, fun d2 H2 nd2 ne2 ha2 hd2 oth2 => ⟨rfl, ?_⟩⟩⟩
    have s2 := mk_same na2 nd2 ne2 oth2
    refine ⟨a2, T.c_InvalidFrame, T.f_InvalidFrame_init, d2, _, v, rfl, T.ex_InvalidFrame, T.no_InvalidFrame_part, ha2, hd2, rfl, line_of (by simp), fun t nt => ?_⟩
    obtain ⟨H3, hh, S3, s3, et⟩ := knew (o := .tup [.ref a, v]) (s1.trans s2) nt
    rw [hh]
    refine ⟨l, _, _, rfl, rfl, S3 _ _ e, by rw [List.length_map, n]; decide, ?_⟩
    have en : Ent K T.cls H3 v t (0 + 8) := ⟨a, et, T.c_InvalidFrame, T.f_InvalidFrame_init, some d, rfl, T.ex_InvalidFrame, s3 _ _ (s2 _ _ ha), fun dd z => by cases z; exact ⟨_, s3 _ _ (s2 _ _ hd)⟩⟩
    obtain ⟨ts2, H4, hh4, e4, n4, E4, S4⟩ := vstep nl e n E S S3 en
    rw [← hh4]
    clear hh hh4 en s1 s2 s3 S3 et na nd ne oth na2 nd2 ne2 oth2 ha hd ha2 hd2 nt e n E S
    have ⟨ts, H0, e, n, E, S, hq⟩ : ∃ (ts : List Addr) (H0 : Hp), H0 l = some (.lst (ts.map V.ref)) ∧ ts.length = 9 ∧ Ents K T.cls H0 v ts 0 ∧ Same H H0 ∧ H4 = H0 := ⟨ts2, H4, e4, n4, E4, S4, rfl⟩
    rw [hq]
    clear hq e4 n4 E4 S4
    refine ⟨_, rfl, .inl ⟨rfl, _, SqL.of e⟩, ?_⟩
    refine ⟨_, rfl, by show 1 ≤ 1000; decide, fun a na => ⟨a, [v], rfl, rfl, upd_same, fun d H1 nd ne ha hd oth => ⟨rfl, ?_⟩⟩⟩
    have s1 := mk_same na nd ne oth
    refine ⟨_, rfl, by show 1 ≤ 1000; decide, fun a2 na2 => ⟨a2, [v], rfl, rfl, upd_same, fun d2 H2 nd2 ne2 ha2 hd2 oth2 => ⟨rfl, ?_⟩⟩⟩
    have s2 := mk_same na2 nd2 ne2 oth2
    refine ⟨a2, T.c_InvalidWord, T.f_InvalidWord_init, d2, _, v, rfl, T.ex_InvalidWord, T.no_InvalidWord_part, ha2, hd2, rfl, line_of (by simp), fun t nt => ?_⟩
    obtain ⟨H3, hh, S3, s3, et⟩ := knew (o := .tup [.ref a, v]) (s1.trans s2) nt
    rw [hh]
    refine ⟨l, _, _, rfl, rfl, S3 _ _ e, by rw [List.length_map, n]; decide, ?_⟩
    have en : Ent K T.cls H3 v t (0 + 9) := ⟨a, et, T.c_InvalidWord, T.f_InvalidWord_init, some d, rfl, T.ex_InvalidWord, s3 _ _ (s2 _ _ ha), fun dd z => by cases z; exact ⟨_, s3 _ _ (s2 _ _ hd)⟩⟩
    obtain ⟨ts2, H4, hh4, e4, n4, E4, S4⟩ := vstep nl e n E S S3 en
    rw [← hh4]
    clear hh hh4 en s1 s2 s3 S3 et na nd ne oth na2 nd2 ne2 oth2 ha hd ha2 hd2 nt e n E S
    have ⟨ts, H0, e, n, E, S, hq⟩ : ∃ (ts : List Addr) (H0 : Hp), H0 l = some (.lst (ts.map V.ref)) ∧ ts.length = 10 ∧ Ents K T.cls H0 v ts 0 ∧ Same H H0 ∧ H4 = H0 := ⟨ts2, H4, e4, n4, E4, S4, rfl⟩
    rw [hq]
    clear hq e4 n4 E4 S4
    refine ⟨_, rfl, .inl ⟨rfl, _, SqL.of e⟩, ?_⟩
    refine ⟨_, rfl, by show 1 ≤ 1000; decide, fun a na => ⟨a, [v], rfl, rfl, upd_same, fun d H1 nd ne ha hd oth => ⟨rfl, ?_⟩⟩⟩
    have s1 := mk_same na nd ne oth
    refine ⟨_, rfl, by show 1 ≤ 1000; decide, fun a2 na2 => ⟨a2, [v], rfl, rfl, upd_same, fun d2 H2 nd2 ne2 ha2 hd2 oth2 => ⟨rfl, ?_⟩⟩⟩
    have s2 := mk_same na2 nd2 ne2 oth2
    refine ⟨a2, T.c_NotReady, T.f_NotReady_init, d2, _, v, rfl, T.ex_NotReady, T.no_NotReady_part, ha2, hd2, rfl, line_of (by simp), fun t nt => ?_⟩
    obtain ⟨H3, hh, S3, s3, et⟩ := knew (o := .tup [.ref a, v]) (s1.trans s2) nt
    rw [hh]
    refine ⟨l, _, _, rfl, rfl, S3 _ _ e, by rw [List.length_map, n]; decide, ?_⟩
    have en : Ent K T.cls H3 v t (0 + 10) := ⟨a, et, T.c_NotReady, T.f_NotReady_init, some d, rfl, T.ex_NotReady, s3 _ _ (s2 _ _ ha), fun dd z => by cases z; exact ⟨_, s3 _ _ (s2 _ _ hd)⟩⟩
    obtain ⟨ts2, H4, hh4, e4, n4, E4, S4⟩ := vstep nl e n E S S3 en
    rw [← hh4]
    clear hh hh4 en s1 s2 s3 S3 et na nd ne oth na2 nd2 ne2 oth2 ha hd ha2 hd2 nt e n E S
    have ⟨ts, H0, e, n, E, S, hq⟩ : ∃ (ts : List Addr) (H0 : Hp), H0 l = some (.lst (ts.map V.ref)) ∧ ts.length = 11 ∧ Ents K T.cls H0 v ts 0 ∧ Same H H0 ∧ H4 = H0 := ⟨ts2, H4, e4, n4, E4, S4, rfl⟩
    rw [hq]
    clear hq e4 n4 E4 S4
    refine ⟨_, rfl, .inl ⟨rfl, _, SqL.of e⟩, ?_⟩
    refine ⟨_, rfl, by show 1 ≤ 1000; decide, fun a na => ⟨a, [v], rfl, rfl, upd_same, fun d H1 nd ne ha hd oth => ⟨rfl, ?_⟩⟩⟩
    have s1 := mk_same na nd ne oth
    refine ⟨_, rfl, by show 1 ≤ 1000; decide, fun a2 na2 => ⟨a2, [v], rfl, rfl, upd_same, fun d2 H2 nd2 ne2 ha2 hd2 oth2 => ⟨rfl, ?_⟩⟩⟩
    have s2 := mk_same na2 nd2 ne2 oth2
    refine ⟨a2, T.c_TooMany, T.f_TooMany_init, d2, _, v, rfl, T.ex_TooMany, T.no_TooMany_part, ha2, hd2, rfl, line_of (by simp), fun t nt => ?_⟩
    obtain ⟨H3, hh, S3, s3, et⟩ := knew (o := .tup [.ref a, v]) (s1.trans s2) nt
    rw [hh]
    refine ⟨l, _, _, rfl, rfl, S3 _ _ e, by rw [List.length_map, n]; decide, ?_⟩
    have en : Ent K T.cls H3 v t (0 + 11) := ⟨a, et, T.c_TooMany, T.f_TooMany_init, some d, rfl, T.ex_TooMany, s3 _ _ (s2 _ _ ha), fun dd z => by cases z; exact ⟨_, s3 _ _ (s2 _ _ hd)⟩⟩
    obtain ⟨ts2, H4, hh4, e4, n4, E4, S4⟩ := vstep nl e n E S S3 en
    rw [← hh4]
    clear hh hh4 en s1 s2 s3 S3 et na nd ne oth na2 nd2 ne2 oth2 ha hd ha2 hd2 nt e n E S
    have ⟨ts, H0, e, n, E, S, hq⟩ : ∃ (ts : List Addr) (H0 : Hp), H0 l = some (.lst (ts.map V.ref)) ∧ ts.length = 12 ∧ Ents K T.cls H0 v ts 0 ∧ Same H H0 ∧ H4 = H0 := ⟨ts2, H4, e4, n4, E4, S4, rfl⟩
    rw [hq]
    clear hq e4 n4 E4 S4
    refine ⟨_, rfl, ?_⟩
    exact q l ts _ S nl e n E
theorem ok__law_places (T : Txt K mg) : FnOk P w K mg base CX0 3 T.f__law_places T.fd__law_places ["_law_left"] (spVals K T.cls 12 13) := by
  have nd := sc__law_places.nd
  refine T.F__law_places.ok sc__law_places (fun vs H Q E h => ?_) (fun cdv A outer s H vs Q E hr h => ?_)
  · obtain ⟨v, rfl, _⟩ := h; rfl
  · obtain ⟨v, rfl, q⟩ := h
    have hu := hu_of hr
    refine ⟨_, (pss_cons (ps_set (i := 1) nd rfl (Or.inl rfl) (pe_lst pa_nil))
        (pss_cons (ps_expr (pe_bm PySem.F.plainAttrs_list PySem.F.slot_list_append PySem.F.type_list_append mt_append (pv 1) (pa_cons (pe_tup (pa_cons (pe_excV T.ex_InvalidAddress (ok_InvalidAddress_init T) (hr.mono (by decide)) T.b_InvalidAddress_init (by rfl) T.m_InvalidAddress (pa_cons (pv 0) pa_nil)) (pa_cons (pe_att (pe_excV T.ex_InvalidAddress (ok_InvalidAddress_init T) (hr.mono (by decide)) T.b_InvalidAddress_init (by rfl) T.m_InvalidAddress (pa_cons (pv 0) pa_nil))) pa_nil))) pa_nil)))
        (pss_cons (ps_expr (pe_bm PySem.F.plainAttrs_list PySem.F.slot_list_append PySem.F.type_list_append mt_append (pv 1) (pa_cons (pe_tup (pa_cons (pe_excV T.ex_Locked (ok_Locked_init T) (hr.mono (by decide)) T.b_Locked_init (by rfl) T.m_Locked (pa_cons (pv 0) pa_nil)) (pa_cons (pe_att (pe_excV T.ex_Locked (ok_Locked_init T) (hr.mono (by decide)) T.b_Locked_init (by rfl) T.m_Locked (pa_cons (pv 0) pa_nil))) pa_nil))) pa_nil)))
        (pss_cons (ps_expr (pe_bm PySem.F.plainAttrs_list PySem.F.slot_list_append PySem.F.type_list_append mt_append (pv 1) (pa_cons (pe_tup (pa_cons (pe_excV T.ex_Blank (ok_Blank_init T) (hr.mono (by decide)) T.b_Blank_init (by rfl) T.m_Blank (pa_cons (pv 0) pa_nil)) (pa_cons (pe_att (pe_excV T.ex_Blank (ok_Blank_init T) (hr.mono (by decide)) T.b_Blank_init (by rfl) T.m_Blank (pa_cons (pv 0) pa_nil))) pa_nil))) pa_nil)))
        (pss_cons (ps_expr (pe_bm PySem.F.plainAttrs_list PySem.F.slot_list_append PySem.F.type_list_append mt_append (pv 1) (pa_cons (pe_tup (pa_cons (pe_excV T.ex_StateClash (ok_StateClash_init T) (hr.mono (by decide)) T.b_StateClash_init (by rfl) T.m_StateClash (pa_cons (pv 0) pa_nil)) (pa_cons (pe_att (pe_excV T.ex_StateClash (ok_StateClash_init T) (hr.mono (by decide)) T.b_StateClash_init (by rfl) T.m_StateClash (pa_cons (pv 0) pa_nil))) pa_nil))) pa_nil)))
        (pss_cons (ps_expr (pe_bm PySem.F.plainAttrs_list PySem.F.slot_list_append PySem.F.type_list_append mt_append (pv 1) (pa_cons (pe_tup (pa_cons (pe_excV T.ex_NoCondition (ok_NoCondition_init T) (hr.mono (by decide)) T.b_NoCondition_init (by rfl) T.m_NoCondition (pa_cons (pv 0) pa_nil)) (pa_cons (pe_att (pe_excV T.ex_NoCondition (ok_NoCondition_init T) (hr.mono (by decide)) T.b_NoCondition_init (by rfl) T.m_NoCondition (pa_cons (pv 0) pa_nil))) pa_nil))) pa_nil)))
        (pss_cons (ps_expr (pe_bm PySem.F.plainAttrs_list PySem.F.slot_list_append PySem.F.type_list_append mt_append (pv 1) (pa_cons (pe_tup (pa_cons (pe_excV T.ex_NoField (ok_NoField_init T) (hr.mono (by decide)) T.b_NoField_init (by rfl) T.m_NoField (pa_cons (pv 0) pa_nil)) (pa_cons (pe_att (pe_excV T.ex_NoField (ok_NoField_init T) (hr.mono (by decide)) T.b_NoField_init (by rfl) T.m_NoField (pa_cons (pv 0) pa_nil))) pa_nil))) pa_nil)))
        (pss_cons (ps_expr (pe_bm PySem.F.plainAttrs_list PySem.F.slot_list_append PySem.F.type_list_append mt_append (pv 1) (pa_cons (pe_tup (pa_cons (pe_excV T.ex_NoKind (ok_NoKind_init T) (hr.mono (by decide)) T.b_NoKind_init (by rfl) T.m_NoKind (pa_cons (pv 0) pa_nil)) (pa_cons (pe_att (pe_excV T.ex_NoKind (ok_NoKind_init T) (hr.mono (by decide)) T.b_NoKind_init (by rfl) T.m_NoKind (pa_cons (pv 0) pa_nil))) pa_nil))) pa_nil)))
        (pss_cons (ps_expr (pe_bm PySem.F.plainAttrs_list PySem.F.slot_list_append PySem.F.type_list_append mt_append (pv 1) (pa_cons (pe_tup (pa_cons (pe_excV T.ex_NoState (ok_NoState_init T) (hr.mono (by decide)) T.b_NoState_init (by rfl) T.m_NoState (pa_cons (pv 0) pa_nil)) (pa_cons (pe_att (pe_excV T.ex_NoState (ok_NoState_init T) (hr.mono (by decide)) T.b_NoState_init (by rfl) T.m_NoState (pa_cons (pv 0) pa_nil))) pa_nil))) pa_nil)))
        (pss_cons (ps_expr (pe_bm PySem.F.plainAttrs_list PySem.F.slot_list_append PySem.F.type_list_append mt_append (pv 1) (pa_cons (pe_tup (pa_cons (pe_excV T.ex_Taken (ok_Taken_init T) (hr.mono (by decide)) T.b_Taken_init (by rfl) T.m_Taken (pa_cons (pv 0) pa_nil)) (pa_cons (pe_att (pe_excV T.ex_Taken (ok_Taken_init T) (hr.mono (by decide)) T.b_Taken_init (by rfl) T.m_Taken (pa_cons (pv 0) pa_nil))) pa_nil))) pa_nil)))
        (pss_cons (ps_expr (pe_bm PySem.F.plainAttrs_list PySem.F.slot_list_append PySem.F.type_list_append mt_append (pv 1) (pa_cons (pe_tup (pa_cons (pe_excV T.ex_NotPossible (ok_NotPossible_init T) (hr.mono (by decide)) T.b_NotPossible_init (by rfl) T.m_NotPossible (pa_cons (pv 0) pa_nil)) (pa_cons (pe_att (pe_excV T.ex_NotPossible (ok_NotPossible_init T) (hr.mono (by decide)) T.b_NotPossible_init (by rfl) T.m_NotPossible (pa_cons (pv 0) pa_nil))) pa_nil))) pa_nil)))
        (pss_cons (ps_expr (pe_bm PySem.F.plainAttrs_list PySem.F.slot_list_append PySem.F.type_list_append mt_append (pv 1) (pa_cons (pe_tup (pa_cons (pe_excV T.ex_NoCase (ok_NoCase_init T) (hr.mono (by decide)) T.b_NoCase_init (by rfl) T.m_NoCase (pa_cons (pv 0) pa_nil)) (pa_cons (pe_att (pe_excV T.ex_NoCase (ok_NoCase_init T) (hr.mono (by decide)) T.b_NoCase_init (by rfl) T.m_NoCase (pa_cons (pv 0) pa_nil))) pa_nil))) pa_nil)))
        (pss_cons (ps_expr (pe_bm PySem.F.plainAttrs_list PySem.F.slot_list_append PySem.F.type_list_append mt_append (pv 1) (pa_cons (pe_tup (pa_cons (pe_excV T.ex_WrongCount (ok_WrongCount_init T) (hr.mono (by decide)) T.b_WrongCount_init (by rfl) T.m_WrongCount (pa_cons (pv 0) pa_nil)) (pa_cons (pe_att (pe_excV T.ex_WrongCount (ok_WrongCount_init T) (hr.mono (by decide)) T.b_WrongCount_init (by rfl) T.m_WrongCount (pa_cons (pv 0) pa_nil))) pa_nil))) pa_nil)))
        (pss_cons (ps_expr (pe_bm PySem.F.plainAttrs_list PySem.F.slot_list_append PySem.F.type_list_append mt_append (pv 1) (pa_cons (pe_tup (pa_cons (pe_excV T.ex_TooLarge (ok_TooLarge_init T) (hr.mono (by decide)) T.b_TooLarge_init (by rfl) T.m_TooLarge (pa_cons (pv 0) pa_nil)) (pa_cons (pe_att (pe_excV T.ex_TooLarge (ok_TooLarge_init T) (hr.mono (by decide)) T.b_TooLarge_init (by rfl) T.m_TooLarge (pa_cons (pv 0) pa_nil))) pa_nil))) pa_nil)))
        (pss_one (ps_ret (pv 1))))))))))))))))), ?_⟩
    refine ⟨line_of (by decide), fun l nl => ?_⟩
    obtain ⟨H0, hh, S, s0, e⟩ := knew (o := .lst []) (Same.refl H) nl
    rw [hh]
    clear hh s0
    obtain ⟨ts, e, n, E⟩ : ∃ ts : List Addr, H0 l = some (.lst (ts.map V.ref)) ∧ ts.length = 0 ∧ Ents K T.cls H0 v ts 12 := ⟨[], e, rfl, fun j t h => by cases h⟩
    refine ⟨_, rfl, .inl ⟨rfl, _, SqL.of e⟩, ?_⟩
    refine ⟨_, rfl, by show 1 ≤ 1000; decide, fun a na => ⟨a, [v], rfl, rfl, upd_same, fun d H1 nd ne ha hd oth => ⟨rfl, ?_⟩⟩⟩
    have s1 := mk_same na nd ne oth
    refine ⟨_, rfl, by show 1 ≤ 1000; decide, fun a2 na2 => ⟨a2, [v], rfl, rfl, upd_same, fun d2 H2 nd2 ne2 ha2 hd2 oth2 => ⟨rfl, ?_⟩⟩⟩
    have s2 := mk_same na2 nd2 ne2 oth2
    refine ⟨a2, T.c_InvalidAddress, T.f_InvalidAddress_init, d2, _, v, rfl, T.ex_InvalidAddress, T.no_InvalidAddress_address, ha2, hd2, rfl, line_of (by simp), fun t nt => ?_⟩
    obtain ⟨H3, hh, S3, s3, et⟩ := knew (o := .tup [.ref a, v]) (s1.trans s2) nt
    rw [hh]
    refine ⟨l, _, _, rfl, rfl, S3 _ _ e, by rw [List.length_map, n]; decide, ?_⟩
    have en : Ent K T.cls H3 v t (12 + 0) := ⟨a, et, T.c_InvalidAddress, T.f_InvalidAddress_init, some d, rfl, T.ex_InvalidAddress, s3 _ _ (s2 _ _ ha), fun dd z => by cases z; exact ⟨_, s3 _ _ (s2 _ _ hd)⟩⟩
    obtain ⟨ts2, H4, hh4, e4, n4, E4, S4⟩ := vstep nl e n E S S3 en
    rw [← hh4]
    clear hh hh4 en s1 s2 s3 S3 et na nd ne oth na2 nd2 ne2 oth2 ha hd ha2 hd2 nt e n E S
    have ⟨ts, H0, e, n, E, S, hq⟩ : ∃ (ts : List Addr) (H0 : Hp), H0 l = some (.lst (ts.map V.ref)) ∧ ts.length = 1 ∧ Ents K T.cls H0 v ts 12 ∧ Same H H0 ∧ H4 = H0 := ⟨ts2, H4, e4, n4, E4, S4, rfl⟩
    rw [hq]
    clear hq e4 n4 E4 S4
    refine ⟨_, rfl, .inl ⟨rfl, _, SqL.of e⟩, ?_⟩
    refine ⟨_, rfl, by show 1 ≤ 1000; decide, fun a na => ⟨a, [v], rfl, rfl, upd_same, fun d H1 nd ne ha hd oth => ⟨rfl, ?_⟩⟩⟩
    have s1 := mk_same na nd ne oth
    refine ⟨_, rfl, by show 1 ≤ 1000; decide, fun a2 na2 => ⟨a2, [v], rfl, rfl, upd_same, fun d2 H2 nd2 ne2 ha2 hd2 oth2 => ⟨rfl, ?_⟩⟩⟩
    have s2 := mk_same na2 nd2 ne2 oth2
    refine ⟨a2, T.c_Locked, T.f_Locked_init, d2, _, v, rfl, T.ex_Locked, T.no_Locked_address, ha2, hd2, rfl, line_of (by simp), fun t nt => ?_⟩
    obtain ⟨H3, hh, S3, s3, et⟩ := knew (o := .tup [.ref a, v]) (s1.trans s2) nt
    rw [hh]
    refine ⟨l, _, _, rfl, rfl, S3 _ _ e, by rw [List.length_map, n]; decide, ?_⟩
    have en : Ent K T.cls H3 v t (12 + 1) := ⟨a, et, T.c_Locked, T.f_Locked_init, some d, rfl, T.ex_Locked, s3 _ _ (s2 _ _ ha), fun dd z => by cases z; exact ⟨_, s3 _ _ (s2 _ _ hd)⟩⟩
    obtain ⟨ts2, H4, hh4, e4, n4, E4, S4⟩ := vstep nl e n E S S3 en
    rw [← hh4]
    clear hh hh4 en s1 s2 s3 S3 et na nd ne oth na2 nd2 ne2 oth2 ha hd ha2 hd2 nt e n E S
    have ⟨ts, H0, e, n, E, S, hq⟩ : ∃ (ts : List Addr) (H0 : Hp), H0 l = some (.lst (ts.map V.ref)) ∧ ts.length = 2 ∧ Ents K T.cls H0 v ts 12 ∧ Same H H0 ∧ H4 = H0 := ⟨ts2, H4, e4, n4, E4, S4, rfl⟩
    rw [hq]
    clear hq e4 n4 E4 S4
    refine ⟨_, rfl, .inl ⟨rfl, _, SqL.of e⟩, ?_⟩
    refine ⟨_, rfl, by show 1 ≤ 1000; decide, fun a na => ⟨a, [v], rfl, rfl, upd_same, fun d H1 nd ne ha hd oth => ⟨rfl, ?_⟩⟩⟩
    have s1 := mk_same na nd ne oth
    refine ⟨_, rfl, by show 1 ≤ 1000; decide, fun a2 na2 => ⟨a2, [v], rfl, rfl, upd_same, fun d2 H2 nd2 ne2 ha2 hd2 oth2 => ⟨rfl, ?_⟩⟩⟩
    have s2 := mk_same na2 nd2 ne2 oth2
    refine ⟨a2, T.c_Blank, T.f_Blank_init, d2, _, v, rfl, T.ex_Blank, T.no_Blank_address, ha2, hd2, rfl, line_of (by simp), fun t nt => ?_⟩
    obtain ⟨H3, hh, S3, s3, et⟩ := knew (o := .tup [.ref a, v]) (s1.trans s2) nt
    rw [hh]
    refine ⟨l, _, _, rfl, rfl, S3 _ _ e, by rw [List.length_map, n]; decide, ?_⟩
    have en : Ent K T.cls H3 v t (12 + 2) := ⟨a, et, T.c_Blank, T.f_Blank_init, some d, rfl, T.ex_Blank, s3 _ _ (s2 _ _ ha), fun dd z => by cases z; exact ⟨_, s3 _ _ (s2 _ _ hd)⟩⟩
    obtain ⟨ts2, H4, hh4, e4, n4, E4, S4⟩ := vstep nl e n E S S3 en
    rw [← hh4]
    clear hh hh4 en s1 s2 s3 S3 et na nd ne oth na2 nd2 ne2 oth2 ha hd ha2 hd2 nt e n E S
    have ⟨ts, H0, e, n, E, S, hq⟩ : ∃ (ts : List Addr) (H0 : Hp), H0 l = some (.lst (ts.map V.ref)) ∧ ts.length = 3 ∧ Ents K T.cls H0 v ts 12 ∧ Same H H0 ∧ H4 = H0 := ⟨ts2, H4, e4, n4, E4, S4, rfl⟩
    rw [hq]
    clear hq e4 n4 E4 S4
    refine ⟨_, rfl, .inl ⟨rfl, _, SqL.of e⟩, ?_⟩
    refine ⟨_, rfl, by show 1 ≤ 1000; decide, fun a na => ⟨a, [v], rfl, rfl, upd_same, fun d H1 nd ne ha hd oth => ⟨rfl, ?_⟩⟩⟩
    have s1 := mk_same na nd ne oth
    refine ⟨_, rfl, by show 1 ≤ 1000; decide, fun a2 na2 => ⟨a2, [v], rfl, rfl, upd_same, fun d2 H2 nd2 ne2 ha2 hd2 oth2 => ⟨rfl, ?_⟩⟩⟩
    have s2 := mk_same na2 nd2 ne2 oth2
    refine ⟨a2, T.c_StateClash, T.f_StateClash_init, d2, _, v, rfl, T.ex_StateClash, T.no_StateClash_name, ha2, hd2, rfl, line_of (by simp), fun t nt => ?_⟩
    obtain ⟨H3, hh, S3, s3, et⟩ := knew (o := .tup [.ref a, v]) (s1.trans s2) nt
    rw [hh]
    refine ⟨l, _, _, rfl, rfl, S3 _ _ e, by rw [List.length_map, n]; decide, ?_⟩
    have en : Ent K T.cls H3 v t (12 + 3) := ⟨a, et, T.c_StateClash, T.f_StateClash_init, some d, rfl, T.ex_StateClash, s3 _ _ (s2 _ _ ha), fun dd z => by cases z; exact ⟨_, s3 _ _ (s2 _ _ hd)⟩⟩
    obtain ⟨ts2, H4, hh4, e4, n4, E4, S4⟩ := vstep nl e n E S S3 en
    rw [← hh4]
    clear hh hh4 en s1 s2 s3 S3 et na nd ne oth na2 nd2 ne2 oth2 ha hd ha2 hd2 nt e n E S
    have ⟨ts, H0, e, n, E, S, hq⟩ : ∃ (ts : List Addr) (H0 : Hp), H0 l = some (.lst (ts.map V.ref)) ∧ ts.length = 4 ∧ Ents K T.cls H0 v ts 12 ∧ Same H H0 ∧ H4 = H0 := ⟨ts2, H4, e4, n4, E4, S4, rfl⟩
    rw [hq]
    clear hq e4 n4 E4 S4
    refine ⟨_, rfl, .inl ⟨rfl, _, SqL.of e⟩, ?_⟩
    refine ⟨_, rfl, by show 1 ≤ 1000; decide, fun a na => ⟨a, [v], rfl, rfl, upd_same, fun d H1 nd ne ha hd oth => ⟨rfl, ?_⟩⟩⟩
    have s1 := mk_same na nd ne oth
    refine ⟨_, rfl, by show 1 ≤ 1000; decide, fun a2 na2 => ⟨a2, [v], rfl, rfl, upd_same, fun d2 H2 nd2 ne2 ha2 hd2 oth2 => ⟨rfl, ?_⟩⟩⟩
    have s2 := mk_same na2 nd2 ne2 oth2
    refine ⟨a2, T.c_NoCondition, T.f_NoCondition_init, d2, _, v, rfl, T.ex_NoCondition, T.no_NoCondition_name, ha2, hd2, rfl, line_of (by simp), fun t nt => ?_⟩
    obtain ⟨H3, hh, S3, s3, et⟩ := knew (o := .tup [.ref a, v]) (s1.trans s2) nt
    rw [hh]
    refine ⟨l, _, _, rfl, rfl, S3 _ _ e, by rw [List.length_map, n]; decide, ?_⟩
    have en : Ent K T.cls H3 v t (12 + 4) := ⟨a, et, T.c_NoCondition, T.f_NoCondition_init, some d, rfl, T.ex_NoCondition, s3 _ _ (s2 _ _ ha), fun dd z => by cases z; exact ⟨_, s3 _ _ (s2 _ _ hd)⟩⟩
    obtain ⟨ts2, H4, hh4, e4, n4, E4, S4⟩ := vstep nl e n E S S3 en
    rw [← hh4]
    clear hh hh4 en s1 s2 s3 S3 et na nd ne oth na2 nd2 ne2 oth2 ha hd ha2 hd2 nt e n E S
    have ⟨ts, H0, e, n, E, S, hq⟩ : ∃ (ts : List Addr) (H0 : Hp), H0 l = some (.lst (ts.map V.ref)) ∧ ts.length = 5 ∧ Ents K T.cls H0 v ts 12 ∧ Same H H0 ∧ H4 = H0 := ⟨ts2, H4, e4, n4, E4, S4, rfl⟩
    rw [hq]
    clear hq e4 n4 E4 S4
    refine ⟨_, rfl, .inl ⟨rfl, _, SqL.of e⟩, ?_⟩
    refine ⟨_, rfl, by show 1 ≤ 1000; decide, fun a na => ⟨a, [v], rfl, rfl, upd_same, fun d H1 nd ne ha hd oth => ⟨rfl, ?_⟩⟩⟩
    have s1 := mk_same na nd ne oth
    refine ⟨_, rfl, by show 1 ≤ 1000; decide, fun a2 na2 => ⟨a2, [v], rfl, rfl, upd_same, fun d2 H2 nd2 ne2 ha2 hd2 oth2 => ⟨rfl, ?_⟩⟩⟩
    have s2 := mk_same na2 nd2 ne2 oth2
    refine ⟨a2, T.c_NoField, T.f_NoField_init, d2, _, v, rfl, T.ex_NoField, T.no_NoField_name, ha2, hd2, rfl, line_of (by simp), fun t nt => ?_⟩
    obtain ⟨H3, hh, S3, s3, et⟩ := knew (o := .tup [.ref a, v]) (s1.trans s2) nt
    rw [hh]
    refine ⟨l, _, _, rfl, rfl, S3 _ _ e, by rw [List.length_map, n]; decide, ?_⟩
    have en : Ent K T.cls H3 v t (12 + 5) := ⟨a, et, T.c_NoField, T.f_NoField_init, some d, rfl, T.ex_NoField, s3 _ _ (s2 _ _ ha), fun dd z => by cases z; exact ⟨_, s3 _ _ (s2 _ _ hd)⟩⟩
    obtain ⟨ts2, H4, hh4, e4, n4, E4, S4⟩ := vstep nl e n E S S3 en
    rw [← hh4]
    clear hh hh4 en s1 s2 s3 S3 et na nd ne oth na2 nd2 ne2 oth2 ha hd ha2 hd2 nt e n E S
    have ⟨ts, H0, e, n, E, S, hq⟩ : ∃ (ts : List Addr) (H0 : Hp), H0 l = some (.lst (ts.map V.ref)) ∧ ts.length = 6 ∧ Ents K T.cls H0 v ts 12 ∧ Same H H0 ∧ H4 = H0 := ⟨ts2, H4, e4, n4, E4, S4, rfl⟩
    rw [hq]
    clear hq e4 n4 E4 S4
    refine ⟨_, rfl, .inl ⟨rfl, _, SqL.of e⟩, ?_⟩
    refine ⟨_, rfl, by show 1 ≤ 1000; decide, fun a na => ⟨a, [v], rfl, rfl, upd_same, fun d H1 nd ne ha hd oth => ⟨rfl, ?_⟩⟩⟩
    have s1 := mk_same na nd ne oth
    refine ⟨_, rfl, by show 1 ≤ 1000; decide, fun a2 na2 => ⟨a2, [v], rfl, rfl, upd_same, fun d2 H2 nd2 ne2 ha2 hd2 oth2 => ⟨rfl, ?_⟩⟩⟩
    have s2 := mk_same na2 nd2 ne2 oth2
    refine ⟨a2, T.c_NoKind, T.f_NoKind_init, d2, _, v, rfl, T.ex_NoKind, T.no_NoKind_name, ha2, hd2, rfl, line_of (by simp), fun t nt => ?_⟩
    obtain ⟨H3, hh, S3, s3, et⟩ := knew (o := .tup [.ref a, v]) (s1.trans s2) nt
    rw [hh]
    refine ⟨l, _, _, rfl, rfl, S3 _ _ e, by rw [List.length_map, n]; decide, ?_⟩
    have en : Ent K T.cls H3 v t (12 + 6) := ⟨a, et, T.c_NoKind, T.f_NoKind_init, some d, rfl, T.ex_NoKind, s3 _ _ (s2 _ _ ha), fun dd z => by cases z; exact ⟨_, s3 _ _ (s2 _ _ hd)⟩⟩
    obtain ⟨ts2, H4, hh4, e4, n4, E4, S4⟩ := vstep nl e n E S S3 en
    rw [← hh4]
    clear hh hh4 en s1 s2 s3 S3 et na nd ne oth na2 nd2 ne2 oth2 ha hd ha2 hd2 nt e n E S
    have ⟨ts, H0, e, n, E, S, hq⟩ : ∃ (ts : List Addr) (H0 : Hp), H0 l = some (.lst (ts.map V.ref)) ∧ ts.length = 7 ∧ Ents K T.cls H0 v ts 12 ∧ Same H H0 ∧ H4 = H0 := ⟨ts2, H4, e4, n4, E4, S4, rfl⟩
    rw [hq]
    clear hq e4 n4 E4 S4
    refine ⟨_, rfl, .inl ⟨rfl, _, SqL.of e⟩, ?_⟩
    refine ⟨_, rfl, by show 1 ≤ 1000; decide, fun a na => ⟨a, [v], rfl, rfl, upd_same, fun d H1 nd ne ha hd oth => ⟨rfl, ?_⟩⟩⟩
    have s1 := mk_same na nd ne oth
    refine ⟨_, rfl, by show 1 ≤ 1000; decide, fun a2 na2 => ⟨a2, [v], rfl, rfl, upd_same, fun d2 H2 nd2 ne2 ha2 hd2 oth2 => ⟨rfl, ?_⟩⟩⟩
    have s2 := mk_same na2 nd2 ne2 oth2
    refine ⟨a2, T.c_NoState, T.f_NoState_init, d2, _, v, rfl, T.ex_NoState, T.no_NoState_name, ha2, hd2, rfl, line_of (by simp), fun t nt => ?_⟩
    obtain ⟨H3, hh, S3, s3, et⟩ := knew (o := .tup [.ref a, v]) (s1.trans s2) nt
    rw [hh]
    refine ⟨l, _, _, rfl, rfl, S3 _ _ e, by rw [List.length_map, n]; decide, ?_⟩
    have en : Ent K T.cls H3 v t (12 + 7) := ⟨a, et, T.c_NoState, T.f_NoState_init, some d, rfl, T.ex_NoState, s3 _ _ (s2 _ _ ha), fun dd z => by cases z; exact ⟨_, s3 _ _ (s2 _ _ hd)⟩⟩
    obtain ⟨ts2, H4, hh4, e4, n4, E4, S4⟩ := vstep nl e n E S S3 en
    rw [← hh4]
    clear hh hh4 en s1 s2 s3 S3 et na nd ne oth na2 nd2 ne2 oth2 ha hd ha2 hd2 nt e n E S
    have ⟨ts, H0, e, n, E, S, hq⟩ : ∃ (ts : List Addr) (H0 : Hp), H0 l = some (.lst (ts.map V.ref)) ∧ ts.length = 8 ∧ Ents K T.cls H0 v ts 12 ∧ Same H H0 ∧ H4 = H0 := ⟨ts2, H4, e4, n4, E4, S4, rfl⟩
    rw [hq]
    clear hq e4 n4 E4 S4
    refine ⟨_, rfl, .inl ⟨rfl, _, SqL.of e⟩, ?_⟩
    refine ⟨_, rfl, by show 1 ≤ 1000; decide, fun a na => ⟨a, [v], rfl, rfl, upd_same, fun d H1 nd ne ha hd oth => ⟨rfl, ?_⟩⟩⟩
    have s1 := mk_same na nd ne oth
    refine ⟨_, rfl, by show 1 ≤ 1000; decide, fun a2 na2 => ⟨a2, [v], rfl, rfl, upd_same, fun d2 H2 nd2 ne2 ha2 hd2 oth2 => ⟨rfl, ?_⟩⟩⟩
    have s2 := mk_same na2 nd2 ne2 oth2
    refine ⟨a2, T.c_Taken, T.f_Taken_init, d2, _, v, rfl, T.ex_Taken, T.no_Taken_name, ha2, hd2, rfl, line_of (by simp), fun t nt => ?_⟩
    obtain ⟨H3, hh, S3, s3, et⟩ := knew (o := .tup [.ref a, v]) (s1.trans s2) nt
    rw [hh]
    refine ⟨l, _, _, rfl, rfl, S3 _ _ e, by rw [List.length_map, n]; decide, ?_⟩
    have en : Ent K T.cls H3 v t (12 + 8) := ⟨a, et, T.c_Taken, T.f_Taken_init, some d, rfl, T.ex_Taken, s3 _ _ (s2 _ _ ha), fun dd z => by cases z; exact ⟨_, s3 _ _ (s2 _ _ hd)⟩⟩
    obtain ⟨ts2, H4, hh4, e4, n4, E4, S4⟩ := vstep nl e n E S S3 en
    rw [← hh4]
    clear hh hh4 en s1 s2 s3 S3 et na nd ne oth na2 nd2 ne2 oth2 ha hd ha2 hd2 nt e n E S
    have ⟨ts, H0, e, n, E, S, hq⟩ : ∃ (ts : List Addr) (H0 : Hp), H0 l = some (.lst (ts.map V.ref)) ∧ ts.length = 9 ∧ Ents K T.cls H0 v ts 12 ∧ Same H H0 ∧ H4 = H0 := ⟨ts2, H4, e4, n4, E4, S4, rfl⟩
    rw [hq]
    clear hq e4 n4 E4 S4
    refine ⟨_, rfl, .inl ⟨rfl, _, SqL.of e⟩, ?_⟩
    refine ⟨_, rfl, by show 1 ≤ 1000; decide, fun a na => ⟨a, [v], rfl, rfl, upd_same, fun d H1 nd ne ha hd oth => ⟨rfl, ?_⟩⟩⟩
    have s1 := mk_same na nd ne oth
    refine ⟨_, rfl, by show 1 ≤ 1000; decide, fun a2 na2 => ⟨a2, [v], rfl, rfl, upd_same, fun d2 H2 nd2 ne2 ha2 hd2 oth2 => ⟨rfl, ?_⟩⟩⟩
    have s2 := mk_same na2 nd2 ne2 oth2
    refine ⟨a2, T.c_NotPossible, T.f_NotPossible_init, d2, _, v, rfl, T.ex_NotPossible, T.no_NotPossible_row, ha2, hd2, rfl, line_of (by simp), fun t nt => ?_⟩
    obtain ⟨H3, hh, S3, s3, et⟩ := knew (o := .tup [.ref a, v]) (s1.trans s2) nt
    rw [hh]
    refine ⟨l, _, _, rfl, rfl, S3 _ _ e, by rw [List.length_map, n]; decide, ?_⟩
    have en : Ent K T.cls H3 v t (12 + 9) := ⟨a, et, T.c_NotPossible, T.f_NotPossible_init, some d, rfl, T.ex_NotPossible, s3 _ _ (s2 _ _ ha), fun dd z => by cases z; exact ⟨_, s3 _ _ (s2 _ _ hd)⟩⟩
    obtain ⟨ts2, H4, hh4, e4, n4, E4, S4⟩ := vstep nl e n E S S3 en
    rw [← hh4]
    clear hh hh4 en s1 s2 s3 S3 et na nd ne oth na2 nd2 ne2 oth2 ha hd ha2 hd2 nt e n E S
    have ⟨ts, H0, e, n, E, S, hq⟩ : ∃ (ts : List Addr) (H0 : Hp), H0 l = some (.lst (ts.map V.ref)) ∧ ts.length = 10 ∧ Ents K T.cls H0 v ts 12 ∧ Same H H0 ∧ H4 = H0 := ⟨ts2, H4, e4, n4, E4, S4, rfl⟩
    rw [hq]
    clear hq e4 n4 E4 S4
    refine ⟨_, rfl, .inl ⟨rfl, _, SqL.of e⟩, ?_⟩
    refine ⟨_, rfl, by show 1 ≤ 1000; decide, fun a na => ⟨a, [v], rfl, rfl, upd_same, fun d H1 nd ne ha hd oth => ⟨rfl, ?_⟩⟩⟩
    have s1 := mk_same na nd ne oth
    refine ⟨_, rfl, by show 1 ≤ 1000; decide, fun a2 na2 => ⟨a2, [v], rfl, rfl, upd_same, fun d2 H2 nd2 ne2 ha2 hd2 oth2 => ⟨rfl, ?_⟩⟩⟩
    have s2 := mk_same na2 nd2 ne2 oth2
    refine ⟨a2, T.c_NoCase, T.f_NoCase_init, d2, _, v, rfl, T.ex_NoCase, T.no_NoCase_case, ha2, hd2, rfl, line_of (by simp), fun t nt => ?_⟩
    obtain ⟨H3, hh, S3, s3, et⟩ := knew (o := .tup [.ref a, v]) (s1.trans s2) nt
    rw [hh]
    refine ⟨l, _, _, rfl, rfl, S3 _ _ e, by rw [List.length_map, n]; decide, ?_⟩
    have en : Ent K T.cls H3 v t (12 + 10) := ⟨a, et, T.c_NoCase, T.f_NoCase_init, some d, rfl, T.ex_NoCase, s3 _ _ (s2 _ _ ha), fun dd z => by cases z; exact ⟨_, s3 _ _ (s2 _ _ hd)⟩⟩
    obtain ⟨ts2, H4, hh4, e4, n4, E4, S4⟩ := vstep nl e n E S S3 en
    rw [← hh4]
    clear hh hh4 en s1 s2 s3 S3 et na nd ne oth na2 nd2 ne2 oth2 ha hd ha2 hd2 nt e n E S
    have ⟨ts, H0, e, n, E, S, hq⟩ : ∃ (ts : List Addr) (H0 : Hp), H0 l = some (.lst (ts.map V.ref)) ∧ ts.length = 11 ∧ Ents K T.cls H0 v ts 12 ∧ Same H H0 ∧ H4 = H0 := ⟨ts2, H4, e4, n4, E4, S4, rfl⟩
    rw [hq]
    clear hq e4 n4 E4 S4
    refine ⟨_, rfl, .inl ⟨rfl, _, SqL.of e⟩, ?_⟩
    refine ⟨_, rfl, by show 1 ≤ 1000; decide, fun a na => ⟨a, [v], rfl, rfl, upd_same, fun d H1 nd ne ha hd oth => ⟨rfl, ?_⟩⟩⟩
    have s1 := mk_same na nd ne oth
    refine ⟨_, rfl, by show 1 ≤ 1000; decide, fun a2 na2 => ⟨a2, [v], rfl, rfl, upd_same, fun d2 H2 nd2 ne2 ha2 hd2 oth2 => ⟨rfl, ?_⟩⟩⟩
    have s2 := mk_same na2 nd2 ne2 oth2
    refine ⟨a2, T.c_WrongCount, T.f_WrongCount_init, d2, _, v, rfl, T.ex_WrongCount, T.no_WrongCount_wanted, ha2, hd2, rfl, line_of (by simp), fun t nt => ?_⟩
    obtain ⟨H3, hh, S3, s3, et⟩ := knew (o := .tup [.ref a, v]) (s1.trans s2) nt
    rw [hh]
    refine ⟨l, _, _, rfl, rfl, S3 _ _ e, by rw [List.length_map, n]; decide, ?_⟩
    have en : Ent K T.cls H3 v t (12 + 11) := ⟨a, et, T.c_WrongCount, T.f_WrongCount_init, some d, rfl, T.ex_WrongCount, s3 _ _ (s2 _ _ ha), fun dd z => by cases z; exact ⟨_, s3 _ _ (s2 _ _ hd)⟩⟩
    obtain ⟨ts2, H4, hh4, e4, n4, E4, S4⟩ := vstep nl e n E S S3 en
    rw [← hh4]
    clear hh hh4 en s1 s2 s3 S3 et na nd ne oth na2 nd2 ne2 oth2 ha hd ha2 hd2 nt e n E S
    have ⟨ts, H0, e, n, E, S, hq⟩ : ∃ (ts : List Addr) (H0 : Hp), H0 l = some (.lst (ts.map V.ref)) ∧ ts.length = 12 ∧ Ents K T.cls H0 v ts 12 ∧ Same H H0 ∧ H4 = H0 := ⟨ts2, H4, e4, n4, E4, S4, rfl⟩
    rw [hq]
    clear hq e4 n4 E4 S4
    refine ⟨_, rfl, .inl ⟨rfl, _, SqL.of e⟩, ?_⟩
    refine ⟨_, rfl, by show 1 ≤ 1000; decide, fun a na => ⟨a, [v], rfl, rfl, upd_same, fun d H1 nd ne ha hd oth => ⟨rfl, ?_⟩⟩⟩
    have s1 := mk_same na nd ne oth
    refine ⟨_, rfl, by show 1 ≤ 1000; decide, fun a2 na2 => ⟨a2, [v], rfl, rfl, upd_same, fun d2 H2 nd2 ne2 ha2 hd2 oth2 => ⟨rfl, ?_⟩⟩⟩
    have s2 := mk_same na2 nd2 ne2 oth2
    refine ⟨a2, T.c_TooLarge, T.f_TooLarge_init, d2, _, v, rfl, T.ex_TooLarge, T.no_TooLarge_limit, ha2, hd2, rfl, line_of (by simp), fun t nt => ?_⟩
    obtain ⟨H3, hh, S3, s3, et⟩ := knew (o := .tup [.ref a, v]) (s1.trans s2) nt
    rw [hh]
    refine ⟨l, _, _, rfl, rfl, S3 _ _ e, by rw [List.length_map, n]; decide, ?_⟩
    have en : Ent K T.cls H3 v t (12 + 12) := ⟨a, et, T.c_TooLarge, T.f_TooLarge_init, some d, rfl, T.ex_TooLarge, s3 _ _ (s2 _ _ ha), fun dd z => by cases z; exact ⟨_, s3 _ _ (s2 _ _ hd)⟩⟩
    obtain ⟨ts2, H4, hh4, e4, n4, E4, S4⟩ := vstep nl e n E S S3 en
    rw [← hh4]
    clear hh hh4 en s1 s2 s3 S3 et na nd ne oth na2 nd2 ne2 oth2 ha hd ha2 hd2 nt e n E S
    have ⟨ts, H0, e, n, E, S, hq⟩ : ∃ (ts : List Addr) (H0 : Hp), H0 l = some (.lst (ts.map V.ref)) ∧ ts.length = 13 ∧ Ents K T.cls H0 v ts 12 ∧ Same H H0 ∧ H4 = H0 := ⟨ts2, H4, e4, n4, E4, S4, rfl⟩
    rw [hq]
    clear hq e4 n4 E4 S4
    refine ⟨_, rfl, ?_⟩
    exact q l ts _ S nl e n E
theorem ok__law_several_right (T : Txt K mg) : FnG P w K mg base 3 T.f__law_several_right T.fd__law_several_right ["_law_left", "_law_middle", "_law_right"] (spSev K) := by
  have G__law_kinds := ok__law_kinds (P := P) (w := w) (base := base) T
  have G__law_is_based := ok__law_is_based (P := P) (w := w) (base := base) T
  have nd := sc__law_several_right.nd
  refine okG T.F__law_several_right sc__law_several_right (fun vs H Q E h => ?_) (fun cdv A outer s H vs Q E calm hr h => ?_)
  · obtain ⟨p, x, y, z, dx, dy, dz, rfl, _⟩ := h; rfl
  · obtain ⟨p, x, y, z, dx, dy, dz, rfl, Tx, Ty, Tz, q⟩ := h
    have hu := hu_of hr
    refine ⟨_, (pss_cons (ps_par (i := 3) (j := 4) (by rfl) nd rfl rfl (by decide) rfl rfl (pa_cons (pe_excV T.ex_InvalidText (ok_InvalidText_init T) (hr.mono (by decide)) T.b_InvalidText_init (by rfl) T.m_InvalidText (pa_cons (pv 0) (pa_cons (pv 1) pa_nil))) (pa_cons (pe_excV T.ex_Clash (ok_Clash_init T) (hr.mono (by decide)) T.b_Clash_init (by rfl) T.m_Clash (pa_cons (pv 1) (pa_cons (pv 2) pa_nil))) pa_nil)) (by rfl))
        (pss_cons (ps_set (i := 5) nd rfl (Or.inl rfl) (pe_excV T.ex_FieldClash (ok_FieldClash_init T) (hr.mono (by decide)) T.b_FieldClash_init (by rfl) T.m_FieldClash (pa_cons (pv 2) (pa_cons (pv 0) (pa_cons (pv 1) pa_nil)))))
        (pss_cons (ps_set (i := 6) nd rfl (Or.inl rfl) (pe_lst (pa_cons (pe_att (pv 3)) (pa_cons (pe_att (pv 3)) (pa_cons (pe_att (pv 4)) (pa_cons (pe_att (pv 4)) pa_nil))))))
        (pss_cons (ps_set (i := 6) nd rfl (Or.inl rfl) (pe_op op_cat (pv 6) (pe_lst (pa_cons (pe_att (pv 5)) (pa_cons (pe_att (pv 5)) (pa_cons (pe_att (pv 5)) pa_nil))))))
        (pss_cons (ps_if (pt_cmpR op_ne (pe_callB (call_reprL calm hr.units) (by rfl) T.n_repr (by decide +kernel) (pa_cons (pv 6) pa_nil)) (pe_callB (call_reprL calm hr.units) (by rfl) T.n_repr (by decide +kernel) (pa_cons (pe_lst (pa_cons (pv 0) (pa_cons (pv 1) (pa_cons (pv 1) (pa_cons (pv 2) (pa_cons (pv 2) (pa_cons (pv 0) (pa_cons (pv 1) pa_nil)))))))) pa_nil)) (nomark _)) (pss_one (ps_ret pe_bl)) pss_nil)
        (pss_cons (ps_par (i := 3) (j := 4) (by rfl) nd rfl rfl (by decide) rfl rfl (pa_cons (pe_excV T.ex_InvalidText (ok_InvalidText_init T) (hr.mono (by decide)) T.b_InvalidText_init (by rfl) T.m_InvalidText (pa_cons (pv 1) (pa_cons (pv 0) pa_nil))) (pa_cons (pe_excV T.ex_Clash (ok_Clash_init T) (hr.mono (by decide)) T.b_Clash_init (by rfl) T.m_Clash (pa_cons (pv 2) (pa_cons (pv 0) pa_nil))) pa_nil)) (by rfl))
        (pss_cons (ps_set (i := 5) nd rfl (Or.inl rfl) (pe_excV T.ex_FieldClash (ok_FieldClash_init T) (hr.mono (by decide)) T.b_FieldClash_init (by rfl) T.m_FieldClash (pa_cons (pv 0) (pa_cons (pv 1) (pa_cons (pv 2) pa_nil)))))
        (pss_cons (ps_set (i := 6) nd rfl (Or.inl rfl) (pe_lst (pa_cons (pe_att (pv 3)) (pa_cons (pe_att (pv 3)) (pa_cons (pe_att (pv 4)) (pa_cons (pe_att (pv 4)) pa_nil))))))
        (pss_cons (ps_set (i := 6) nd rfl (Or.inl rfl) (pe_op op_cat (pv 6) (pe_lst (pa_cons (pe_att (pv 5)) (pa_cons (pe_att (pv 5)) (pa_cons (pe_att (pv 5)) pa_nil))))))
        (pss_cons (ps_if (pt_cmpR op_ne (pe_callB (call_reprL calm hr.units) (by rfl) T.n_repr (by decide +kernel) (pa_cons (pv 6) pa_nil)) (pe_callB (call_reprL calm hr.units) (by rfl) T.n_repr (by decide +kernel) (pa_cons (pe_lst (pa_cons (pv 1) (pa_cons (pv 0) (pa_cons (pv 2) (pa_cons (pv 0) (pa_cons (pv 0) (pa_cons (pv 1) (pa_cons (pv 2) pa_nil)))))))) pa_nil)) (nomark _)) (pss_one (ps_ret pe_bl)) pss_nil)
        (pss_cons (ps_set (i := 7) nd rfl (Or.inl rfl) (pe_lst (pa_cons (pv 3) (pa_cons (pv 5) (pa_cons (pv 4) (pa_cons (pe_excV0 T.ex_NoStates (ok_NoStates_init T) (hr.mono (by decide)) T.b_NoStates_init (by rfl) T.m_NoStates) (pa_cons (pe_excV0 T.ex_NoEntries (ok_NoEntries_init T) (hr.mono (by decide)) T.b_NoEntries_init (by rfl) T.m_NoEntries) (pa_cons (pe_excV0 T.ex_NotEnd (ok_NotEnd_init T) (hr.mono (by decide)) T.b_NotEnd_init (by rfl) T.m_NotEnd) (pa_cons (pe_excV0 T.ex_NotCarried (ok_NotCarried_init T) (hr.mono (by decide)) T.b_NotCarried_init (by rfl) T.m_NotCarried) (pa_cons (pe_excV0 T.ex_Unlike (ok_Unlike_init T) (hr.mono (by decide)) T.b_Unlike_init (by rfl) T.m_Unlike) pa_nil))))))))))
        (pss_cons (ps_if (pt_cmpR (op_neD hr.units) (pe_lc (own := [("_law_error", 8)]) (g := gName 8) rfl nd (pi_list (pv 7)) (blkOk_by (own := [("_law_error", 8)]) (N := N__law_several_right) (sc := defScope s__law_several_right) (by decide +kernel)) (fun _ _ _ _ _ => pg_name (i := 8) nd rfl (Or.inl rfl)) (fun _ _ _ _ _ => pts_one (pt_not (pt_val (pe_call (G__law_is_based) (hr.mono (by decide)) (by rfl) T.m__law_is_based T.F__law_is_based.kp T.b__law_is_based .nil pass0 (pa_cons (pv 8) pa_nil))))) (fun _ _ _ _ _ => (pv 8))) (pe_lst pa_nil) (nomark _)) (pss_one (ps_ret pe_bl)) pss_nil)
        (pss_one (ps_ret (pe_cmpR (op_eqD hr.units) (pe_lc (own := [("_law_error", 8)]) (g := gName 8) rfl nd (pi_list (pv 7)) (blkOk_by (own := [("_law_error", 8)]) (N := N__law_several_right) (sc := defScope s__law_several_right) (by decide +kernel)) (fun _ _ _ _ _ => pg_name (i := 8) nd rfl (Or.inl rfl)) (fun _ _ _ _ _ => pts_nil) (fun _ _ _ _ _ => (pe_call (G__law_kinds) (hr.mono (by decide)) (by rfl) T.m__law_kinds T.F__law_kinds.kp T.b__law_kinds .nil pass0 (pa_cons (pv 8) pa_nil)))) (pe_lc (own := [("_law_at", 9)]) (g := gName 9) rfl nd (pi_range2 (by rfl) T.n_range (pa_cons pe_int (pa_cons pe_int pa_nil))) (blkOk_by (own := [("_law_at", 9)]) (N := N__law_several_right) (sc := defScope s__law_several_right) (by decide +kernel)) (fun _ _ _ _ _ => pg_name (i := 9) nd rfl (Or.inl rfl)) (fun _ _ _ _ _ => pts_nil) (fun _ _ _ _ _ => (pe_lst (pa_cons (pv 9) pa_nil)))) (nomark _)))))))))))))))), ?_⟩
    have S0 : Same H H := Same.refl H
    refine ⟨_, rfl, _, rfl, by show 2 ≤ 1000; decide, fun au1 nau1 => ⟨au1, [x, y], rfl, rfl, upd_same, fun du1 Hu1 ndu1 neu1 hau1 hdu1 othu1 => ⟨rfl, ?_⟩⟩⟩
    have su1 := mk_same nau1 ndu1 neu1 othu1
    have Su1 := S0.trans su1
    refine ⟨_, rfl, _, rfl, by show 2 ≤ 1000; decide, fun au2 nau2 => ⟨au2, [y, z], rfl, rfl, upd_same, fun du2 Hu2 ndu2 neu2 hau2 hdu2 othu2 => ⟨rfl, ?_⟩⟩⟩
    have su2 := mk_same nau2 ndu2 neu2 othu2
    have Su2 := Su1.trans su2
    refine ⟨_, _, rfl, ?_⟩
    refine ⟨_, rfl, _, rfl, _, rfl, by show 3 ≤ 1000; decide, fun au3 nau3 => ⟨au3, [z, x, y], rfl, rfl, upd_same, fun du3 Hu3 ndu3 neu3 hau3 hdu3 othu3 => ⟨rfl, ?_⟩⟩⟩
    have su3 := mk_same nau3 ndu3 neu3 othu3
    have Su3 := Su2.trans su3
    have hau1 := su3 _ _ (su2 _ _ hau1)
    have hdu1 := su3 _ _ (su2 _ _ hdu1)
    have hau2 := su3 _ _ hau2
    have hdu2 := su3 _ _ hdu2
    have I : Same Hu3 Hu3 := Same.refl _
    refine ⟨_, rfl, au1, T.c_InvalidText, T.f_InvalidText_init, du1, _, _, rfl, T.ex_InvalidText, T.no_InvalidText_line, (I) _ _ hau1, (I) _ _ hdu1, rfl, _, rfl, au1, T.c_InvalidText, T.f_InvalidText_init, du1, _, _, rfl, T.ex_InvalidText, T.no_InvalidText_word, (I) _ _ hau1, (I) _ _ hdu1, rfl, _, rfl, au2, T.c_Clash, T.f_Clash_init, du2, _, _, rfl, T.ex_Clash, T.no_Clash_lesser, (I) _ _ hau2, (I) _ _ hdu2, rfl, _, rfl, au2, T.c_Clash, T.f_Clash_init, du2, _, _, rfl, T.ex_Clash, T.no_Clash_name, (I) _ _ hau2, (I) _ _ hdu2, rfl, line_of (by simp), fun lu nlu => ?_⟩
    obtain ⟨Hlu, hh, Slu, slu, elu⟩ := knew (o := .lst [x, y, y, z]) Su3 nlu
    rw [hh]
    clear hh I
    refine ⟨_, rfl, _, rfl, au3, T.c_FieldClash, T.f_FieldClash_init, du3, _, _, rfl, T.ex_FieldClash, T.no_FieldClash_field, (slu) _ _ hau3, (slu) _ _ hdu3, rfl, _, rfl, au3, T.c_FieldClash, T.f_FieldClash_init, du3, _, _, rfl, T.ex_FieldClash, T.no_FieldClash_one, (slu) _ _ hau3, (slu) _ _ hdu3, rfl, _, rfl, au3, T.c_FieldClash, T.f_FieldClash_init, du3, _, _, rfl, T.ex_FieldClash, T.no_FieldClash_other, (slu) _ _ hau3, (slu) _ _ hdu3, rfl, line_of (by simp), fun mu nmu => ?_⟩
    obtain ⟨Hmu, hh, Smu, smu, emu⟩ := knew (o := .lst [z, x, y]) Slu nmu
    rw [hh]
    clear hh
    refine ⟨lu, mu, _, _, rfl, rfl, smu _ _ elu, emu, line_of (by simp), fun fu nfu => ?_⟩
    obtain ⟨Hfu, hh, Sfu, sfu, efu⟩ := knew (o := .lst ([x, y, y, z] ++ [z, x, y])) Smu nfu
    rw [hh]
    clear hh
    have zu := seven_ok Tx.1 Ty.1 Ty.1 Tz.1 Tz.1 Tx.1 Ty.1
    refine ⟨_, rfl, fu, _, [dx, dy, dy, dz, dz, dx, dy], rfl, SqL.of efu, (.cons (Tx.2 _ (same_keep (Sfu))) (.cons (Ty.2 _ (same_keep (Sfu))) (.cons (Ty.2 _ (same_keep (Sfu))) (.cons (Tz.2 _ (same_keep (Sfu))) (.cons (Tz.2 _ (same_keep (Sfu))) (.cons (Tx.2 _ (same_keep (Sfu))) (.cons (Ty.2 _ (same_keep (Sfu))) .nil))))))), zu.1, zu.2.1, zu.2.2, ?_⟩
    refine ⟨_, rfl, _, rfl, _, rfl, _, rfl, _, rfl, _, rfl, _, rfl, line_of (by simp), fun gu ngu => ?_⟩
    obtain ⟨Hgu, hh, Sgu, sgu, egu⟩ := knew (o := .lst [x, y, y, z, z, x, y]) Sfu ngu
    rw [hh]
    clear hh
    refine ⟨gu, _, [dx, dy, dy, dz, dz, dx, dy], rfl, SqL.of egu, (.cons (Tx.2 _ (same_keep (Sgu))) (.cons (Ty.2 _ (same_keep (Sgu))) (.cons (Ty.2 _ (same_keep (Sgu))) (.cons (Tz.2 _ (same_keep (Sgu))) (.cons (Tz.2 _ (same_keep (Sgu))) (.cons (Tx.2 _ (same_keep (Sgu))) (.cons (Ty.2 _ (same_keep (Sgu))) .nil))))))), zu.1, zu.2.1, zu.2.2, ?_⟩
    refine ⟨rfl, _, rfl, ?_⟩
    refine iteNS rfl ?_
    dsimp only [tNext]
    show tSeq _ _ _ ([some x, some y, some z, some (.ref au1), some (.ref au2), some (.ref au3), some (.ref fu), none, none, none] : L2.St) _
    have hau1 := (slu.trans (smu.trans (sfu.trans sgu))) _ _ hau1
    have hdu1 := (slu.trans (smu.trans (sfu.trans sgu))) _ _ hdu1
    have hau2 := (slu.trans (smu.trans (sfu.trans sgu))) _ _ hau2
    have hdu2 := (slu.trans (smu.trans (sfu.trans sgu))) _ _ hdu2
    have hau3 := (slu.trans (smu.trans (sfu.trans sgu))) _ _ hau3
    have hdu3 := (slu.trans (smu.trans (sfu.trans sgu))) _ _ hdu3
    clear slu smu sfu sgu Slu Smu Sfu elu emu efu egu zu su1 su2 su3 Su1 Su2 Su3 nau1 nau2 nau3 ndu1 ndu2 ndu3 neu1 neu2 neu3 othu1 othu2 othu3 nlu nmu nfu ngu
    refine ⟨_, rfl, _, rfl, by show 2 ≤ 1000; decide, fun aw1 naw1 => ⟨aw1, [y, x], rfl, rfl, upd_same, fun dw1 Hw1 ndw1 new1 haw1 hdw1 othw1 => ⟨rfl, ?_⟩⟩⟩
    have sw1 := mk_same naw1 ndw1 new1 othw1
    have Sw1 := Sgu.trans sw1
    refine ⟨_, rfl, _, rfl, by show 2 ≤ 1000; decide, fun aw2 naw2 => ⟨aw2, [z, x], rfl, rfl, upd_same, fun dw2 Hw2 ndw2 new2 haw2 hdw2 othw2 => ⟨rfl, ?_⟩⟩⟩
    have sw2 := mk_same naw2 ndw2 new2 othw2
    have Sw2 := Sw1.trans sw2
    refine ⟨_, _, rfl, ?_⟩
    refine ⟨_, rfl, _, rfl, _, rfl, by show 3 ≤ 1000; decide, fun aw3 naw3 => ⟨aw3, [x, y, z], rfl, rfl, upd_same, fun dw3 Hw3 ndw3 new3 haw3 hdw3 othw3 => ⟨rfl, ?_⟩⟩⟩
    have sw3 := mk_same naw3 ndw3 new3 othw3
    have Sw3 := Sw2.trans sw3
    have haw1 := sw3 _ _ (sw2 _ _ haw1)
    have hdw1 := sw3 _ _ (sw2 _ _ hdw1)
    have haw2 := sw3 _ _ haw2
    have hdw2 := sw3 _ _ hdw2
    have I : Same Hw3 Hw3 := Same.refl _
    refine ⟨_, rfl, aw1, T.c_InvalidText, T.f_InvalidText_init, dw1, _, _, rfl, T.ex_InvalidText, T.no_InvalidText_line, (I) _ _ haw1, (I) _ _ hdw1, rfl, _, rfl, aw1, T.c_InvalidText, T.f_InvalidText_init, dw1, _, _, rfl, T.ex_InvalidText, T.no_InvalidText_word, (I) _ _ haw1, (I) _ _ hdw1, rfl, _, rfl, aw2, T.c_Clash, T.f_Clash_init, dw2, _, _, rfl, T.ex_Clash, T.no_Clash_lesser, (I) _ _ haw2, (I) _ _ hdw2, rfl, _, rfl, aw2, T.c_Clash, T.f_Clash_init, dw2, _, _, rfl, T.ex_Clash, T.no_Clash_name, (I) _ _ haw2, (I) _ _ hdw2, rfl, line_of (by simp), fun lw nlw => ?_⟩
    obtain ⟨Hlw, hh, Slw, slw, elw⟩ := knew (o := .lst [y, x, z, x]) Sw3 nlw
    rw [hh]
    clear hh I
    refine ⟨_, rfl, _, rfl, aw3, T.c_FieldClash, T.f_FieldClash_init, dw3, _, _, rfl, T.ex_FieldClash, T.no_FieldClash_field, (slw) _ _ haw3, (slw) _ _ hdw3, rfl, _, rfl, aw3, T.c_FieldClash, T.f_FieldClash_init, dw3, _, _, rfl, T.ex_FieldClash, T.no_FieldClash_one, (slw) _ _ haw3, (slw) _ _ hdw3, rfl, _, rfl, aw3, T.c_FieldClash, T.f_FieldClash_init, dw3, _, _, rfl, T.ex_FieldClash, T.no_FieldClash_other, (slw) _ _ haw3, (slw) _ _ hdw3, rfl, line_of (by simp), fun mw nmw => ?_⟩
    obtain ⟨Hmw, hh, Smw, smw, emw⟩ := knew (o := .lst [x, y, z]) Slw nmw
    rw [hh]
    clear hh
    refine ⟨lw, mw, _, _, rfl, rfl, smw _ _ elw, emw, line_of (by simp), fun fw nfw => ?_⟩
    obtain ⟨Hfw, hh, Sfw, sfw, efw⟩ := knew (o := .lst ([y, x, z, x] ++ [x, y, z])) Smw nfw
    rw [hh]
    clear hh
    have zw := seven_ok Ty.1 Tx.1 Tz.1 Tx.1 Tx.1 Ty.1 Tz.1
    refine ⟨_, rfl, fw, _, [dy, dx, dz, dx, dx, dy, dz], rfl, SqL.of efw, (.cons (Ty.2 _ (same_keep (Sfw))) (.cons (Tx.2 _ (same_keep (Sfw))) (.cons (Tz.2 _ (same_keep (Sfw))) (.cons (Tx.2 _ (same_keep (Sfw))) (.cons (Tx.2 _ (same_keep (Sfw))) (.cons (Ty.2 _ (same_keep (Sfw))) (.cons (Tz.2 _ (same_keep (Sfw))) .nil))))))), zw.1, zw.2.1, zw.2.2, ?_⟩
    refine ⟨_, rfl, _, rfl, _, rfl, _, rfl, _, rfl, _, rfl, _, rfl, line_of (by simp), fun gw ngw => ?_⟩
    obtain ⟨Hgw, hh, Sgw, sgw, egw⟩ := knew (o := .lst [y, x, z, x, x, y, z]) Sfw ngw
    rw [hh]
    clear hh
    refine ⟨gw, _, [dy, dx, dz, dx, dx, dy, dz], rfl, SqL.of egw, (.cons (Ty.2 _ (same_keep (Sgw))) (.cons (Tx.2 _ (same_keep (Sgw))) (.cons (Tz.2 _ (same_keep (Sgw))) (.cons (Tx.2 _ (same_keep (Sgw))) (.cons (Tx.2 _ (same_keep (Sgw))) (.cons (Ty.2 _ (same_keep (Sgw))) (.cons (Tz.2 _ (same_keep (Sgw))) .nil))))))), zw.1, zw.2.1, zw.2.2, ?_⟩
    refine ⟨rfl, _, rfl, ?_⟩
    refine iteNS rfl ?_
    dsimp only [tNext]
    show tSeq _ _ _ ([some x, some y, some z, some (.ref aw1), some (.ref aw2), some (.ref aw3), some (.ref fw), none, none, none] : L2.St) _
    have haw1 := (slw.trans (smw.trans (sfw.trans sgw))) _ _ haw1
    have hdw1 := (slw.trans (smw.trans (sfw.trans sgw))) _ _ hdw1
    have haw2 := (slw.trans (smw.trans (sfw.trans sgw))) _ _ haw2
    have hdw2 := (slw.trans (smw.trans (sfw.trans sgw))) _ _ hdw2
    have haw3 := (slw.trans (smw.trans (sfw.trans sgw))) _ _ haw3
    have hdw3 := (slw.trans (smw.trans (sfw.trans sgw))) _ _ hdw3
    clear slw smw sfw sgw Slw Smw Sfw elw emw efw egw zw sw1 sw2 sw3 Sw1 Sw2 Sw3 naw1 naw2 naw3 ndw1 ndw2 ndw3 new1 new2 new3 othw1 othw2 othw3 nlw nmw nfw ngw
    refine ⟨_, rfl, _, rfl, _, rfl, ?_⟩
    refine ⟨Nat.zero_le _, fun n0 nn0 => ⟨n0, rfl, upd_same, rfl, ?_⟩⟩
    obtain ⟨Hn0, hh, Sn0, sn0, en0⟩ := knew (o := exo n0 T.c_NoStates none) Sgw nn0
    rw [hh]
    clear hh
    refine ⟨Nat.zero_le _, fun n1 nn1 => ⟨n1, rfl, upd_same, rfl, ?_⟩⟩
    obtain ⟨Hn1, hh, Sn1, sn1, en1⟩ := knew (o := exo n1 T.c_NoEntries none) Sn0 nn1
    rw [hh]
    clear hh
    refine ⟨Nat.zero_le _, fun n2 nn2 => ⟨n2, rfl, upd_same, rfl, ?_⟩⟩
    obtain ⟨Hn2, hh, Sn2, sn2, en2⟩ := knew (o := exo n2 T.c_NotEnd none) Sn1 nn2
    rw [hh]
    clear hh
    refine ⟨Nat.zero_le _, fun n3 nn3 => ⟨n3, rfl, upd_same, rfl, ?_⟩⟩
    obtain ⟨Hn3, hh, Sn3, sn3, en3⟩ := knew (o := exo n3 T.c_NotCarried none) Sn2 nn3
    rw [hh]
    clear hh
    refine ⟨Nat.zero_le _, fun n4 nn4 => ⟨n4, rfl, upd_same, rfl, ?_⟩⟩
    obtain ⟨Hn4, hh, Sn4, sn4, en4⟩ := knew (o := exo n4 T.c_Unlike none) Sn3 nn4
    rw [hh]
    clear hh
    refine ⟨line_of (by simp), fun le nle => ?_⟩
    obtain ⟨He, hh, Se, se, ee⟩ := knew (o := .lst (([aw1, aw3, aw2, n0, n1, n2, n3, n4] : List Addr).map V.ref)) Sn4 nle
    show tSeq _ _ _ _ (upd Hn4 le (.lst (([aw1, aw3, aw2, n0, n1, n2, n3, n4] : List Addr).map V.ref)))
    rw [hh]
    clear hh
    have errs : Errs K T.cls He [aw1, aw3, aw2, n0, n1, n2, n3, n4] 25 := (errs_cons ⟨T.c_InvalidText, T.f_InvalidText_init, some dw1, rfl, T.ex_InvalidText, (sn0.trans (sn1.trans (sn2.trans (sn3.trans (sn4.trans se))))) _ _ haw1, fun dd z => by cases z; exact ⟨_, (sn0.trans (sn1.trans (sn2.trans (sn3.trans (sn4.trans se))))) _ _ hdw1⟩⟩ (errs_cons ⟨T.c_FieldClash, T.f_FieldClash_init, some dw3, rfl, T.ex_FieldClash, (sn0.trans (sn1.trans (sn2.trans (sn3.trans (sn4.trans se))))) _ _ haw3, fun dd z => by cases z; exact ⟨_, (sn0.trans (sn1.trans (sn2.trans (sn3.trans (sn4.trans se))))) _ _ hdw3⟩⟩ (errs_cons ⟨T.c_Clash, T.f_Clash_init, some dw2, rfl, T.ex_Clash, (sn0.trans (sn1.trans (sn2.trans (sn3.trans (sn4.trans se))))) _ _ haw2, fun dd z => by cases z; exact ⟨_, (sn0.trans (sn1.trans (sn2.trans (sn3.trans (sn4.trans se))))) _ _ hdw2⟩⟩ (errs_cons ⟨T.c_NoStates, T.f_NoStates_init, none, rfl, T.ex_NoStates, (sn1.trans (sn2.trans (sn3.trans (sn4.trans se)))) _ _ en0, fun dd z => by cases z⟩ (errs_cons ⟨T.c_NoEntries, T.f_NoEntries_init, none, rfl, T.ex_NoEntries, (sn2.trans (sn3.trans (sn4.trans se))) _ _ en1, fun dd z => by cases z⟩ (errs_cons ⟨T.c_NotEnd, T.f_NotEnd_init, none, rfl, T.ex_NotEnd, (sn3.trans (sn4.trans se)) _ _ en2, fun dd z => by cases z⟩ (errs_cons ⟨T.c_NotCarried, T.f_NotCarried_init, none, rfl, T.ex_NotCarried, (sn4.trans se) _ _ en3, fun dd z => by cases z⟩ (errs_cons ⟨T.c_Unlike, T.f_Unlike_init, none, rfl, T.ex_Unlike, se _ _ en4, fun dd z => by cases z⟩ errs_nil))))))))
    show tSeq _ _ _ ([some x, some y, some z, some (.ref aw1), some (.ref aw2), some (.ref aw3), some (.ref fw), some (.ref le), none, none] : L2.St) _
    generalize hL : ([aw1, aw3, aw2, n0, n1, n2, n3, n4] : List Addr) = L at *
    have L8 : L.length = 8 := by rw [← hL]; rfl
    -- none of them is of another base
    refine ⟨_, rfl, le, rfl, ⟨_, SqL.of ee⟩, fun D nD => lc_list (K := K) (a := le) (xs := L.map V.ref) (fun k H2 => Same He H2 ∧ H2 D = some (.lst [])) ⟨same_upd nD, upd_same⟩ (fun _ _ _ h => SqL.of (h.1 _ _ ee)) ?_ ?_⟩
    · rintro k x H2 hx ⟨s1, hD⟩
      obtain ⟨a, ha, rfl⟩ := map_ref hx
      refine ⟨rfl, _, rfl, a, 25 + k, rfl, (errs k a ha).same s1, fun H3 s3 => ?_⟩
      refine ⟨_, rfl, ?_⟩
      refine iteF ⟨s1.trans s3, s3 _ _ hD⟩
    · rintro H2 ⟨s1, hD⟩
      refine ⟨Nat.zero_le _, fun l2 nl2 => ?_⟩
      have s2 : Same H2 (upd H2 l2 (.lst [])) := same_upd nl2
      refine ⟨.list [], .list [], .lst (SqL.of (s2 _ _ hD)) .nil, .lst (SqL.of upd_same) .nil, rfl, rfl, _, rfl, ?_⟩
      refine iteF ?_
      have s12 := s1.trans s2
      have ee2 := s12 _ _ ee
      have errs := errs.same s12
      have S2 := Se.trans s12
      generalize upd H2 l2 (.lst []) = H4 at *
      refine ⟨_, rfl, le, rfl, ⟨_, SqL.of ee2⟩, fun D1 nD1 => lc_list (K := K) (a := le) (xs := L.map V.ref) (fun k H2 => Same H4 H2 ∧ ∃ ls, H2 D1 = some (.lst (ls.map V.ref)) ∧ Marks H2 ls 25 k) ⟨same_upd nD1, [], upd_same, marks_nil⟩ (fun _ _ _ h => SqL.of (h.1 _ _ ee2)) ?_ ?_⟩
      · rintro k x H5 hx ⟨s1, ls, hD, M⟩
        obtain ⟨a, ha, rfl⟩ := map_ref hx
        have hk : k < 8 := by
          rw [← L8]
          exact (List.getElem?_eq_some_iff.mp ha).1
        refine ⟨rfl, ?_⟩
        refine iteT (B := (fun _ => True) hk) ?_
        refine ⟨_, rfl, a, 25 + k, rfl, by omega, (errs k a ha).same s1, fun l H6 s6 hl => ?_⟩
        refine ⟨_, s6 _ _ hD, by rw [List.length_map, M.1]; exact Nat.lt_of_lt_of_le hk (by decide), fun b o z => ?_, ls ++ [l], by rw [upd_same, List.map_append]; rfl, (M.same s6).snoc (s6 _ _ hD) hl⟩
        rw [upd_ne (ne_of_none z nD1)]
        exact s6 _ _ (s1 b o z)
      · rintro H5 ⟨s1, ls, hD1, M1⟩
        rw [List.length_map, L8] at M1
        refine ⟨_, _, rfl, ⟨by decide, by decide, by decide, by decide⟩, fun D2 nD2 => lc_range (lo := 25) (n := 8) (fun k H2 => Same H5 H2 ∧ ∃ ls, H2 D2 = some (.lst (ls.map V.ref)) ∧ Marks H2 ls 25 k) ⟨same_upd nD2, [], upd_same, marks_nil⟩ ?_ ?_⟩
        · rintro k H6 hk ⟨s6, ls2, hD2, M2⟩
          refine ⟨rfl, ?_⟩
          refine iteT (B := (fun _ => True) hk) ?_
          refine ⟨_, rfl, line_of (by simp), fun l nl => ?_⟩
          have s7 : Same H6 (upd H6 l (.lst [.int ((25 : Int) + (k : Nat))])) := same_upd nl
          have hl : (upd H6 l (.lst [.int ((25 : Int) + (k : Nat))])) l = some (.lst [.int (((25 + k : Nat) : Nat) : Int)]) := upd_same
          refine ⟨_, s7 _ _ hD2, by rw [List.length_map, M2.1]; exact Nat.lt_of_lt_of_le hk (by decide), fun b o z => ?_, ls2 ++ [l], by rw [upd_same, List.map_append]; rfl, (M2.same s7).snoc (s7 _ _ hD2) hl⟩
          rw [upd_ne (ne_of_none z nD2)]
          exact s7 _ _ (s6 b o z)
        · rintro H6 ⟨s6, ls2, hD2, M2⟩
          refine ⟨.list (marksD 25 8), .list (marksD 25 8), .lst (SqL.of (s6 _ _ hD1)) ((M1.same s6).dp), .lst (SqL.of hD2) M2.dp, by decide +kernel, by decide +kernel, ?_⟩
          rw [show PyData.eqv (.list (marksD 25 8)) (.list (marksD 25 8)) = true by decide +kernel]
          exact q _ (S2.trans (s1.trans s6))
theorem ok_law (T : Txt K mg) : FnG P w K mg base 4 T.f_law T.fd_law ["_law_script"] (spLaw K) := by
  have G__law_pen := ok__law_pen (P := P) (w := w) (base := base) T
  have G__law_thing := ok__law_thing (P := P) (w := w) (base := base) T
  have G__law_values := ok__law_values (P := P) (w := w) (base := base) T
  have G__law_places := ok__law_places (P := P) (w := w) (base := base) T
  have G__law_kinds := ok__law_kinds (P := P) (w := w) (base := base) T
  have G__law_is_based := ok__law_is_based (P := P) (w := w) (base := base) T
  have G__law_several_right := ok__law_several_right (P := P) (w := w) (base := base) T
  have nd := sc_law.nd
  refine okG T.F_law sc_law (fun vs H Q E h => ?_) (fun cdv A outer s H vs Q E calm hr h => ?_)
  · obtain ⟨a, ns, rfl, _⟩ := h; rfl
  · obtain ⟨a, ns, rfl, hS, hl, q⟩ := h
    have hu := hu_of hr
    refine ⟨_, (pss_cons (ps_set (i := 1) nd rfl (Or.inl rfl) (pe_call (G__law_pen) (hr.mono (by decide)) (by rfl) T.m__law_pen T.F__law_pen.kp T.b__law_pen .nil pass0 (pa_cons (pv 0) pa_nil)))
        (pss_cons (ps_for PassesOwn.never rfl (pi_range1 rfl T.n_range (pa_cons pe_int pa_nil)) (pg_name (i := 2) nd rfl (Or.inl rfl)) (pss_cons (ps_par (i := 3) (j := 4) (by rfl) nd rfl rfl (by decide) rfl rfl (pa_cons (pe_call (G__law_thing) (hr.mono (by decide)) (by rfl) T.m__law_thing T.F__law_thing.kp T.b__law_thing .nil pass0 (pa_cons (pv 1) pa_nil)) (pa_cons (pe_call (G__law_thing) (hr.mono (by decide)) (by rfl) T.m__law_thing T.F__law_thing.kp T.b__law_thing .nil pass0 (pa_cons (pv 1) pa_nil)) pa_nil)) (by rfl))
        (pss_cons (ps_set (i := 5) nd rfl (Or.inl rfl) (pe_call (G__law_thing) (hr.mono (by decide)) (by rfl) T.m__law_thing T.F__law_thing.kp T.b__law_thing .nil pass0 (pa_cons (pv 1) pa_nil)))
        (pss_cons (ps_set (i := 6) nd rfl (Or.inl rfl) (pe_op op_cat (pe_call (G__law_values) (hr.mono (by decide)) (by rfl) T.m__law_values T.F__law_values.kp T.b__law_values .nil pass0 (pa_cons (pv 3) pa_nil)) (pe_call (G__law_places) (hr.mono (by decide)) (by rfl) T.m__law_places T.F__law_places.kp T.b__law_places .nil pass0 (pa_cons (pv 3) pa_nil))))
        (pss_cons (ps_for PassesOwn.never rfl (pi_enum (by rfl) T.n_enumerate (pa_cons (pv 6) pa_nil)) (pg_tup rfl (pgs_cons (pg_name (i := 7) nd rfl (Or.inl rfl)) (pgs_cons (pg_name (i := 8) nd rfl (Or.inl rfl)) pgs_nil))) (pss_cons (ps_asg (pv 8) (pg_tup rfl (pgs_cons (pg_name (i := 9) nd rfl (Or.inl rfl)) (pgs_cons (pg_name (i := 10) nd rfl (Or.inl rfl)) pgs_nil))))
        (pss_cons (ps_if (PW.pt (pw_or (pt_cmpR (op_neD hr.units) (pe_call (G__law_kinds) (hr.mono (by decide)) (by rfl) T.m__law_kinds T.F__law_kinds.kp T.b__law_kinds .nil pass0 (pa_cons (pv 9) pa_nil)) (pe_lst (pa_cons (pv 7) pa_nil)) (nomark _)) (pw_or1 (pt_not (pt_val (pe_call (G__law_is_based) (hr.mono (by decide)) (by rfl) T.m__law_is_based T.F__law_is_based.kp T.b__law_is_based .nil pass0 (pa_cons (pv 9) pa_nil))))))) (pss_one (ps_ret pe_bl)) pss_nil)
        (pss_one (ps_if (pt_cmpR op_ne (pe_callB (call_reprS calm hr.units) (by rfl) T.n_repr (by decide +kernel) (pa_cons (pv 10) pa_nil)) (pe_callB (call_reprS calm hr.units) (by rfl) T.n_repr (by decide +kernel) (pa_cons (pv 3) pa_nil)) (nomark _)) (pss_one (ps_ret pe_bl)) pss_nil)))))
        (pss_one (ps_if (pt_not (pt_val (pe_callG G__law_several_right calm (hr.mono (by decide)) (by rfl) T.m__law_several_right T.F__law_several_right.kp T.b__law_several_right (pa_cons (pv 3) (pa_cons (pv 4) (pa_cons (pv 5) pa_nil)))))) (pss_one (ps_ret pe_bl)) pss_nil)))))))
        (pss_cons (ps_set (i := 11) nd rfl (Or.inl rfl) (pe_lst (pa_cons pe_int pa_nil)))
        (pss_cons (ps_setLc (i := 10) (own := [("_law_pair", 12)]) (g := gName 12) rfl nd rfl rfl (sw_true rfl rfl rfl (by decide +kernel)) (pi_list (pe_op op_cat (pe_call (G__law_values) (hr.mono (by decide)) (by rfl) T.m__law_values T.F__law_values.kp T.b__law_values .nil pass0 (pa_cons (pv 11) pa_nil)) (pe_call (G__law_places) (hr.mono (by decide)) (by rfl) T.m__law_places T.F__law_places.kp T.b__law_places .nil pass0 (pa_cons (pv 11) pa_nil)))) (blkOk_by (own := [("_law_pair", 12)]) (N := N_law) (sc := defScope s_law) (by decide +kernel)) (fun _ _ _ _ _ => pg_name (i := 12) nd rfl (Or.inl rfl)) (fun _ _ _ _ _ => pts_nil) (fun _ _ _ _ _ => (pe_ix (r := rIxT K) ix_tup (pv 12) pe_int (fun _ _ => rfl))))
        (pss_cons (ps_set (i := 10) nd rfl (Or.inl rfl) (pe_op op_cat (pv 10) (pe_lst (pa_cons (pe_att (pe_excV T.ex_FieldClash (ok_FieldClash_init T) (hr.mono (by decide)) T.b_FieldClash_init (by rfl) T.m_FieldClash (pa_cons (pv 11) (pa_cons pe_int (pa_cons pe_int pa_nil))))) (pa_cons (pe_att (pe_excV T.ex_FieldClash (ok_FieldClash_init T) (hr.mono (by decide)) T.b_FieldClash_init (by rfl) T.m_FieldClash (pa_cons pe_str (pa_cons (pv 11) (pa_cons pe_int pa_nil))))) (pa_cons (pe_att (pe_excV T.ex_FieldClash (ok_FieldClash_init T) (hr.mono (by decide)) T.b_FieldClash_init (by rfl) T.m_FieldClash (pa_cons pe_str (pa_cons pe_int (pa_cons (pv 11) pa_nil))))) pa_nil))))))
        (pss_cons (ps_set (i := 10) nd rfl (Or.inl rfl) (pe_op op_cat (pv 10) (pe_lst (pa_cons (pe_att (pe_excV T.ex_InvalidText (ok_InvalidText_init T) (hr.mono (by decide)) T.b_InvalidText_init (by rfl) T.m_InvalidText (pa_cons (pv 11) (pa_cons pe_int pa_nil)))) (pa_cons (pe_att (pe_excV T.ex_InvalidText (ok_InvalidText_init T) (hr.mono (by decide)) T.b_InvalidText_init (by rfl) T.m_InvalidText (pa_cons pe_int (pa_cons (pv 11) pa_nil)))) pa_nil)))))
        (pss_cons (ps_set (i := 10) nd rfl (Or.inl rfl) (pe_op op_cat (pv 10) (pe_lst (pa_cons (pe_att (pe_excV T.ex_Clash (ok_Clash_init T) (hr.mono (by decide)) T.b_Clash_init (by rfl) T.m_Clash (pa_cons (pv 11) (pa_cons pe_str pa_nil)))) (pa_cons (pe_att (pe_excV T.ex_Clash (ok_Clash_init T) (hr.mono (by decide)) T.b_Clash_init (by rfl) T.m_Clash (pa_cons pe_str (pa_cons (pv 11) pa_nil)))) pa_nil)))))
        (pss_cons (ps_expr (pe_bm PySem.F.plainAttrs_list PySem.F.slot_list_append PySem.F.type_list_append mt_append (pv 11) (pa_cons pe_int pa_nil)))
        (pss_one (ps_ret (pe_cmpR (op_eqD hr.units) (pv 10) (pe_op op_rep (pe_lst (pa_cons (pe_lst (pa_cons pe_int (pa_cons pe_int pa_nil))) pa_nil)) (pe_callB call_len_seq (by rfl) T.n_len (by decide +kernel) (pa_cons (pv 10) pa_nil))) (nomark _)))))))))))), ?_⟩
    refine ⟨_, rfl, a, ns, rfl, hS, hl, fun p H1 np s1 P1 => ?_⟩
    refine ⟨_, rfl, by decide, by decide, for_range (n := 4) (fun i σ H2 => ∃ (v2 v3 v4 v5 v6 v7 v8 v9 v10 : Option V), σ = [some (.ref a), some (.ref p), v2, v3, v4, v5, v6, v7, v8, v9, v10, none, none] ∧ Pen H2 p (70 * i)) ⟨_, _, _, _, _, _, _, _, _, rfl, P1⟩ ?_ ?_⟩
    · rintro i σ H2 hi ⟨v2, v3, v4, v5, v6, v7, v8, v9, v10, rfl, P2⟩
      refine ⟨_, rfl, p, _, rfl, P2, by omega, fun x dx H3 Tx P3 k3 => ?_⟩
      refine ⟨_, rfl, p, _, rfl, P3, by omega, fun y dy H4 Ty P4 k4 => ?_⟩
      refine ⟨_, _, rfl, ?_⟩
      refine ⟨_, rfl, p, _, rfl, P4, by omega, fun z dz H5 Tz P5 k5 => ?_⟩
      have Tx := Tx.keep (k4.trans k5)
      have Ty := Ty.keep k5
      refine ⟨_, rfl, x, rfl, fun l1 ts1 H6 s6 nl1 e1 n1 E1 => ?_⟩
      refine ⟨_, rfl, x, rfl, fun l2 ts2 H7 s7 nl2 e2 n2 E2 => ?_⟩
      refine ⟨l1, l2, _, _, rfl, rfl, s7 _ _ e1, e2, by rw [List.length_map, List.length_map, n1, n2]; decide, fun l3 nl3 => ?_⟩
      obtain ⟨H8, hh, S8, s8, e3⟩ := knew (o := .lst (ts1.map V.ref ++ ts2.map V.ref)) (s6.trans s7) nl3
      rw [hh]
      clear hh
      rw [← List.map_append] at e3
      have E3 : Ents K T.cls H8 x (ts1 ++ ts2) 0 := Ents.app n1 (E1.same (s7.trans s8)) (E2.same s8)
      have n3 : (ts1 ++ ts2).length = 25 := by rw [List.length_append, n1, n2]
      generalize ts1 ++ ts2 = ts at *
      refine ⟨_, rfl, l3, _, rfl, SqL.of e3, for_it walk_enum (fun k σ H9 => ∃ (w7 w8 w9 w10 : Option V), σ = [some (.ref a), some (.ref p), some (.int (0 + (i : Nat))), some x, some y, some z, some (.ref l3), w7, w8, w9, w10, none, none] ∧ Same H8 H9) ⟨_, _, _, _, rfl, Same.refl _⟩ (fun _ _ _ _ h => by obtain ⟨_, _, _, _, _, h⟩ := h; exact SqL.of (h _ _ e3)) ?_ ?_⟩
      · rintro k t0 σ H9 H10 hk ⟨w7, w8, w9, w10, rfl, s9⟩ ⟨tt, x1, x2, rfl, nt, rfl, hx, hy⟩
        cases (Option.some.inj hx)
        obtain ⟨t, ht, rfl⟩ := map_ref hy
        have hk25 : k < 25 := by
          rw [List.length_map, n3] at hk
          exact hk
        obtain ⟨H10, hh, S10, s10, e10⟩ := knew (o := .tup [.int ((k : Nat) : Int), .ref t]) s9 nt
        rw [hh]
        clear hh
        refine ⟨tt, _, rfl, SqT.of e10, rfl, _, _, rfl, _, _, rfl, rfl, ?_⟩
        obtain ⟨ea, et, eE⟩ := (E3 k t ht).same S10
        rw [Nat.zero_add] at eE
        refine ⟨_, rfl, t, _, rfl, SqT.of et, rfl, _, _, rfl, _, _, rfl, rfl, ?_⟩
        refine ⟨_, rfl, ea, k, rfl, by omega, eE, fun lk H11 s11 elk => ?_⟩
        refine ⟨_, rfl, line_of (by simp), fun lm nlm => ?_⟩
        obtain ⟨H12, hh, S12, s12, e12⟩ := knew (o := .lst [.int ((k : Nat) : Int)]) (S10.trans s11) nlm
        rw [hh]
        clear hh
        refine ⟨.list [.int ((k : Nat) : Int)], .list [.int ((k : Nat) : Int)], .lst (SqL.of (s12 _ _ elk)) (.cons (.int _) .nil), .lst (SqL.of e12) (.cons (.int _) .nil), rfl, rfl, _, rfl, ?_⟩
        rw [eqv_one]
        refine iteF ?_
        refine ⟨_, rfl, ea, k, rfl, eE.same (s11.trans s12), fun H13 s13 => ?_⟩
        refine ⟨_, rfl, ?_⟩
        refine iteF ?_
        have S13 := S8.trans (S12.trans s13)
        refine ⟨_, rfl, x, dx, rfl, Tx.2 _ (same_keep S13), Tx.1.sh, Nat.le_trans Tx.1.dp (by decide), Nat.le_trans Tx.1.ln (by decide), ?_⟩
        refine ⟨_, rfl, x, dx, rfl, Tx.2 _ (same_keep S13), Tx.1.sh, Nat.le_trans Tx.1.dp (by decide), Nat.le_trans Tx.1.ln (by decide), ?_⟩
        refine ⟨rfl, _, rfl, ?_⟩
        refine iteNS rfl ?_
        exact ⟨_, _, _, _, rfl, S12.trans s13⟩
      · rintro σ H9 ⟨w7, w8, w9, w10, rfl, s9⟩
        have S9 := S8.trans s9
        refine ⟨_, rfl, _, rfl, _, rfl, p, x, y, z, dx, dy, dz, rfl, Tx.keep (same_keep S9), Ty.keep (same_keep S9), Tz.keep (same_keep S9), fun H10 s10 => ?_⟩
        refine ⟨_, rfl, ?_⟩
        refine iteF ?_
        exact ⟨_, _, _, _, _, _, _, _, _, rfl, (P5.same (S9.trans s10)).mono (by omega)⟩
    · rintro σ H2 ⟨v2, v3, v4, v5, v6, v7, v8, v9, v10, rfl, P2⟩
      refine ⟨line_of (by simp), fun h nh => ?_⟩
      obtain ⟨H3, hh, S3, s3, eh⟩ := knew (o := .lst [.int 1]) (Same.refl H2) nh
      rw [hh]
      clear hh
      refine ⟨_, rfl, .ref h, rfl, fun l1 ts1 H6 s6 nl1 e1 n1 E1 => ?_⟩
      refine ⟨_, rfl, .ref h, rfl, fun l2 ts2 H7 s7 nl2 e2 n2 E2 => ?_⟩
      refine ⟨l1, l2, _, _, rfl, rfl, s7 _ _ e1, e2, by rw [List.length_map, List.length_map, n1, n2]; decide, fun l3 nl3 => ?_⟩
      obtain ⟨H8, hh, S8, s8, e3⟩ := knew (o := .lst (ts1.map V.ref ++ ts2.map V.ref)) (s6.trans s7) nl3
      rw [hh]
      clear hh
      rw [← List.map_append] at e3
      have E3 : Ents K T.cls H8 (.ref h) (ts1 ++ ts2) 0 := Ents.app n1 (E1.same (s7.trans s8)) (E2.same s8)
      have n3 : (ts1 ++ ts2).length = 25 := by rw [List.length_append, n1, n2]
      have eh := S8 _ _ eh
      generalize ts1 ++ ts2 = ts at *
      refine ⟨l3, rfl, ⟨_, SqL.of e3⟩, fun D nD => lc_list (K := K) (a := l3) (xs := ts.map V.ref) (fun k H2 => Same H8 H2 ∧ H2 D = some (.lst (List.replicate k (.ref h)))) ⟨same_upd nD, upd_same⟩ (fun _ _ _ q => SqL.of (q.1 _ _ e3)) ?_ ?_⟩
      · rintro k xx H9 hx ⟨s9, eD⟩
        obtain ⟨t, ht, rfl⟩ := map_ref hx
        have hk25 : k < 25 := by
          have z := (List.getElem?_eq_some_iff.mp ht).1
          rw [n3] at z
          exact z
        obtain ⟨ea, et, eE⟩ := (E3 k t ht).same s9
        refine ⟨rfl, ?_⟩
        refine iteT (B := (fun _ => True) ht) ?_
        refine ⟨_, rfl, t, _, 1, .ref h, rfl, rfl, SqT.of et, atI_nat (j := 1) rfl, _, eD, by rw [List.length_replicate]; exact Nat.lt_of_lt_of_le hk25 (by decide), fun b o q => ?_, ?_⟩
        · rw [upd_ne (ne_of_none q nD)]
          exact s9 b o q
        · rw [upd_same, List.replicate_succ']
      · rintro H9 ⟨s9, eD⟩
        rw [List.length_map, n3] at eD
        have eh := s9 _ _ eh
        have I : Same H9 H9 := Same.refl _
        refine ⟨_, rfl, ?_⟩
        have I0 : Same H9 H9 := Same.refl _
        refine ⟨_, rfl, by show 3 ≤ 1000; decide, fun ag00 nag00 => ⟨ag00, [.ref h, .int 1, .int 2], rfl, rfl, upd_same, fun dg00 Hg00 ndg00 neg00 hag00 hdg00 othg00 => ⟨rfl, ?_⟩⟩⟩
        have sg00 := mk_same nag00 ndg00 neg00 othg00
        have Sg00 := I0.trans sg00
        refine ⟨ag00, T.c_FieldClash, T.f_FieldClash_init, dg00, _, _, rfl, T.ex_FieldClash, T.no_FieldClash_field, hag00, hdg00, rfl, ?_⟩
        refine ⟨_, rfl, by show 3 ≤ 1000; decide, fun ag01 nag01 => ⟨ag01, [.str "a", .ref h, .int 2], rfl, rfl, upd_same, fun dg01 Hg01 ndg01 neg01 hag01 hdg01 othg01 => ⟨rfl, ?_⟩⟩⟩
        have sg01 := mk_same nag01 ndg01 neg01 othg01
        have Sg01 := Sg00.trans sg01
        refine ⟨ag01, T.c_FieldClash, T.f_FieldClash_init, dg01, _, _, rfl, T.ex_FieldClash, T.no_FieldClash_one, hag01, hdg01, rfl, ?_⟩
        refine ⟨_, rfl, by show 3 ≤ 1000; decide, fun ag02 nag02 => ⟨ag02, [.str "a", .int 1, .ref h], rfl, rfl, upd_same, fun dg02 Hg02 ndg02 neg02 hag02 hdg02 othg02 => ⟨rfl, ?_⟩⟩⟩
        have sg02 := mk_same nag02 ndg02 neg02 othg02
        have Sg02 := Sg01.trans sg02
        refine ⟨ag02, T.c_FieldClash, T.f_FieldClash_init, dg02, _, _, rfl, T.ex_FieldClash, T.no_FieldClash_other, hag02, hdg02, rfl, ?_⟩
        refine ⟨line_of (by simp), fun lm0 nlm0 => ?_⟩
        obtain ⟨Hm0, hh, Sm0, sm0, em0⟩ := knew (o := .lst [.ref h, .ref h, .ref h]) Sg02 nlm0
        rw [hh]
        clear hh
        refine ⟨D, lm0, _, _, rfl, rfl, Sm0 _ _ eD, em0, line_of (by simp), fun lc0 nlc0 => ?_⟩
        obtain ⟨Hq0, hh, Sq0, sq0, eq0⟩ := knew (o := .lst (List.replicate 25 (.ref h) ++ [.ref h, .ref h, .ref h])) Sm0 nlc0
        rw [hh]
        clear hh
        have eq0 : Hq0 lc0 = some (.lst (List.replicate 28 (.ref h))) := eq0
        have eh := Sq0 _ _ eh
        refine ⟨_, rfl, ?_⟩
        have I0 : Same Hq0 Hq0 := Same.refl _
        refine ⟨_, rfl, by show 2 ≤ 1000; decide, fun ag10 nag10 => ⟨ag10, [.ref h, .int 0], rfl, rfl, upd_same, fun dg10 Hg10 ndg10 neg10 hag10 hdg10 othg10 => ⟨rfl, ?_⟩⟩⟩
        have sg10 := mk_same nag10 ndg10 neg10 othg10
        have Sg10 := I0.trans sg10
        refine ⟨ag10, T.c_InvalidText, T.f_InvalidText_init, dg10, _, _, rfl, T.ex_InvalidText, T.no_InvalidText_line, hag10, hdg10, rfl, ?_⟩
        refine ⟨_, rfl, by show 2 ≤ 1000; decide, fun ag11 nag11 => ⟨ag11, [.int 0, .ref h], rfl, rfl, upd_same, fun dg11 Hg11 ndg11 neg11 hag11 hdg11 othg11 => ⟨rfl, ?_⟩⟩⟩
        have sg11 := mk_same nag11 ndg11 neg11 othg11
        have Sg11 := Sg10.trans sg11
        refine ⟨ag11, T.c_InvalidText, T.f_InvalidText_init, dg11, _, _, rfl, T.ex_InvalidText, T.no_InvalidText_word, hag11, hdg11, rfl, ?_⟩
        refine ⟨line_of (by simp), fun lm1 nlm1 => ?_⟩
        obtain ⟨Hm1, hh, Sm1, sm1, em1⟩ := knew (o := .lst [.ref h, .ref h]) Sg11 nlm1
        rw [hh]
        clear hh
        refine ⟨lc0, lm1, _, _, rfl, rfl, Sm1 _ _ eq0, em1, line_of (by simp), fun lc1 nlc1 => ?_⟩
        obtain ⟨Hq1, hh, Sq1, sq1, eq1⟩ := knew (o := .lst (List.replicate 28 (.ref h) ++ [.ref h, .ref h])) Sm1 nlc1
        rw [hh]
        clear hh
        have eq1 : Hq1 lc1 = some (.lst (List.replicate 30 (.ref h))) := eq1
        have eh := Sq1 _ _ eh
        refine ⟨_, rfl, ?_⟩
        have I0 : Same Hq1 Hq1 := Same.refl _
        refine ⟨_, rfl, by show 2 ≤ 1000; decide, fun ag20 nag20 => ⟨ag20, [.ref h, .str "a"], rfl, rfl, upd_same, fun dg20 Hg20 ndg20 neg20 hag20 hdg20 othg20 => ⟨rfl, ?_⟩⟩⟩
        have sg20 := mk_same nag20 ndg20 neg20 othg20
        have Sg20 := I0.trans sg20
        refine ⟨ag20, T.c_Clash, T.f_Clash_init, dg20, _, _, rfl, T.ex_Clash, T.no_Clash_lesser, hag20, hdg20, rfl, ?_⟩
        refine ⟨_, rfl, by show 2 ≤ 1000; decide, fun ag21 nag21 => ⟨ag21, [.str "a", .ref h], rfl, rfl, upd_same, fun dg21 Hg21 ndg21 neg21 hag21 hdg21 othg21 => ⟨rfl, ?_⟩⟩⟩
        have sg21 := mk_same nag21 ndg21 neg21 othg21
        have Sg21 := Sg20.trans sg21
        refine ⟨ag21, T.c_Clash, T.f_Clash_init, dg21, _, _, rfl, T.ex_Clash, T.no_Clash_name, hag21, hdg21, rfl, ?_⟩
        refine ⟨line_of (by simp), fun lm2 nlm2 => ?_⟩
        obtain ⟨Hm2, hh, Sm2, sm2, em2⟩ := knew (o := .lst [.ref h, .ref h]) Sg21 nlm2
        rw [hh]
        clear hh
        refine ⟨lc1, lm2, _, _, rfl, rfl, Sm2 _ _ eq1, em2, line_of (by simp), fun lc2 nlc2 => ?_⟩
        obtain ⟨Hq2, hh, Sq2, sq2, eq2⟩ := knew (o := .lst (List.replicate 30 (.ref h) ++ [.ref h, .ref h])) Sm2 nlc2
        rw [hh]
        clear hh
        have eq2 : Hq2 lc2 = some (.lst (List.replicate 32 (.ref h))) := eq2
        have eh := Sq2 _ _ eh
        refine ⟨_, rfl, .inl ⟨rfl, _, SqL.of eh⟩, h, _, _, rfl, rfl, eh, by decide, ?_⟩
        have nlh : lc2 ≠ h := ne_of eq2 eh (by intro q; cases q)
        have ek : (upd Hq2 h (.lst ([.int 1] ++ [.int 2]))) lc2 = some (.lst (List.replicate 32 (.ref h))) := by
          rw [upd_ne nlh]
          exact eq2
        have eh2 : (upd Hq2 h (.lst ([.int 1] ++ [.int 2]))) h = some (.lst [.int 1, .int 2]) := upd_same
        generalize upd Hq2 h (.lst ([.int 1] ++ [.int 2])) = Hz at *
        refine ⟨_, rfl, line_of (by simp), fun i1 ni1 => ?_⟩
        obtain ⟨Hy1, hh, Sy1, sy1, ey1⟩ := knew (o := .lst [.int 1, .int 2]) (Same.refl Hz) ni1
        rw [hh]
        clear hh
        refine ⟨line_of (by simp), fun i2 ni2 => ?_⟩
        obtain ⟨Hy2, hh, Sy2, sy2, ey2⟩ := knew (o := .lst [.ref i1]) Sy1 ni2
        rw [hh]
        clear hh
        refine ⟨_, rfl, lc2, _, rfl, .inl (SqL.of (Sy2 _ _ ek)), i2, _, _, rfl, rfl, ey2, by simp, by simp, by show 1 * 32 ≤ sizeLine; decide, fun i3 ni3 => ?_⟩
        obtain ⟨Hy3, hh, Sy3, sy3, ey3⟩ := knew (o := .lst (List.replicate 32 (.ref i1))) Sy2 ni3
        refine ⟨.list (List.replicate 32 (.list [.int 1, .int 2])), .list (List.replicate 32 (.list [.int 1, .int 2])), .lst (SqL.of ((same_upd ni3) _ _ (Sy2 _ _ ek))) (dp_rep (.lst (SqL.of ((same_upd ni3) _ _ (Sy2 _ _ eh2))) (.cons (.int 1) (.cons (.int 2) .nil))) 32), .lst (SqL.of upd_same) (dp_rep (.lst (SqL.of ((same_upd ni3) _ _ (sy2 _ _ ey1))) (.cons (.int 1) (.cons (.int 2) .nil))) 32), by decide +kernel, by decide +kernel, ?_⟩
        rw [show PyData.eqv (.list (List.replicate 32 (.list [.int 1, .int 2]))) (.list (List.replicate 32 (.list [.int 1, .int 2]))) = true by decide +kernel]
        exact q _
end
/-- the classes asked of one another -/
def tabB (K : PySem.W.Frag) (cls : List Addr) : Bool := (List.range cls.length).all fun i => (List.range cls.length).all fun j => decide (PySem.W.kitOne K (.ref (cls.getD i 0)) (.ref (cls.getD j 0)) = some (decide (i = j)))
theorem tabB_ok {K : PySem.W.Frag} {cls : List Addr} (h : tabB K cls = true) (i j : Nat) (c e : Addr) (hi : cls[i]? = some c) (hj : cls[j]? = some e) : PySem.W.kitOne K (.ref c) (.ref e) = some (decide (i = j)) := by
  have li := (List.getElem?_eq_some_iff.mp hi).1
  have lj := (List.getElem?_eq_some_iff.mp hj).1
  unfold tabB at h
  rw [List.all_eq_true] at h
  have h1 := h i (List.mem_range.mpr li)
  rw [List.all_eq_true] at h1
  have h2 := of_decide_eq_true (h1 j (List.mem_range.mpr lj))
  rw [List.getD_eq_getElem?_getD, List.getD_eq_getElem?_getD, hi, hj] at h2
  exact h2
def allB (K : PySem.W.Frag) (cls : List Addr) (c : Value) : Bool := cls.all fun C => decide (PySem.W.kitOne K (.ref C) c = some true)
theorem allB_ok {K : PySem.W.Frag} {cls : List Addr} {c : Value} (h : allB K cls c = true) : ∀ C ∈ cls, PySem.W.kitOne K (.ref C) c = some true := fun C hC => by
  unfold allB at h
  rw [List.all_eq_true] at h
  exact of_decide_eq_true (h C hC)
def noneB (K : PySem.W.Frag) (cls : List Addr) (cs : List Value) : Bool := cls.all fun C => decide (PySem.W.kitAny K (.ref C) cs = some false)
theorem noneB_ok {K : PySem.W.Frag} {cls : List Addr} {cs : List Value} (h : noneB K cls cs = true) : ∀ C ∈ cls, PySem.W.kitAny K (.ref C) cs = some false := fun C hC => by
  unfold noneB at h
  rw [List.all_eq_true] at h
  exact of_decide_eq_true (h C hC)
theorem all_mk {l : PySem.W.OpenLaw} {w : World} {K : PySem.W.Frag} {h : Heap} {mg : Str → Option Value} {fa : Addr} (X : K.In h) (G : h.Ns mainGlobals mg) (hfa : mg "law" = some (.ref fa))
    {f1 : Addr} {od1 an1 : Option Addr} {sl1 : Array (Option Value)} {oc1 kV1 dc1 pm1 cd1 ct1 : Value}
    {f2 : Addr} {od2 an2 : Option Addr} {sl2 : Array (Option Value)} {oc2 kV2 dc2 pm2 cd2 ct2 : Value}
    {f3 : Addr} {od3 an3 : Option Addr} {sl3 : Array (Option Value)} {oc3 kV3 dc3 pm3 cd3 ct3 : Value}
    {f4 : Addr} {od4 an4 : Option Addr} {sl4 : Array (Option Value)} {oc4 kV4 dc4 pm4 cd4 ct4 : Value}
    {f5 : Addr} {od5 an5 : Option Addr} {sl5 : Array (Option Value)} {oc5 kV5 dc5 pm5 cd5 ct5 : Value}
    {f6 : Addr} {od6 an6 : Option Addr} {sl6 : Array (Option Value)} {oc6 kV6 dc6 pm6 cd6 ct6 : Value}
    {f7 : Addr} {od7 an7 : Option Addr} {sl7 : Array (Option Value)} {oc7 kV7 dc7 pm7 cd7 ct7 : Value}
    {f8 : Addr} {od8 an8 : Option Addr} {sl8 : Array (Option Value)} {oc8 kV8 dc8 pm8 cd8 ct8 : Value}
    {f9 : Addr} {od9 an9 : Option Addr} {sl9 : Array (Option Value)} {oc9 kV9 dc9 pm9 cd9 ct9 : Value}
    {f10 : Addr} {od10 an10 : Option Addr} {sl10 : Array (Option Value)} {oc10 kV10 dc10 pm10 cd10 ct10 : Value}
    {cO : Addr}
    {c_InvalidName g_InvalidName N_InvalidName : Addr} {nm_InvalidName q_InvalidName : Str} {bs_InvalidName : List Value} {sn_InvalidName : List Str} {sub_InvalidName : List Value} {ab_InvalidName : Bool} {col_InvalidName : Option Bool} {dd_InvalidName : Option Addr} {m0_InvalidName m1_InvalidName m2_InvalidName m3_InvalidName m5_InvalidName : Option Value}
    {od_InvalidName an_InvalidName : Option Addr} {sl_InvalidName : Array (Option Value)} {oc_InvalidName kV_InvalidName dc_InvalidName pm_InvalidName cd_InvalidName ct_InvalidName : Value}
    {c_InvalidNumber g_InvalidNumber N_InvalidNumber : Addr} {nm_InvalidNumber q_InvalidNumber : Str} {bs_InvalidNumber : List Value} {sn_InvalidNumber : List Str} {sub_InvalidNumber : List Value} {ab_InvalidNumber : Bool} {col_InvalidNumber : Option Bool} {dd_InvalidNumber : Option Addr} {m0_InvalidNumber m1_InvalidNumber m2_InvalidNumber m3_InvalidNumber m5_InvalidNumber : Option Value}
    {od_InvalidNumber an_InvalidNumber : Option Addr} {sl_InvalidNumber : Array (Option Value)} {oc_InvalidNumber kV_InvalidNumber dc_InvalidNumber pm_InvalidNumber cd_InvalidNumber ct_InvalidNumber : Value}
    {c_InvalidRow g_InvalidRow N_InvalidRow : Addr} {nm_InvalidRow q_InvalidRow : Str} {bs_InvalidRow : List Value} {sn_InvalidRow : List Str} {sub_InvalidRow : List Value} {ab_InvalidRow : Bool} {col_InvalidRow : Option Bool} {dd_InvalidRow : Option Addr} {m0_InvalidRow m1_InvalidRow m2_InvalidRow m3_InvalidRow m5_InvalidRow : Option Value}
    {od_InvalidRow an_InvalidRow : Option Addr} {sl_InvalidRow : Array (Option Value)} {oc_InvalidRow kV_InvalidRow dc_InvalidRow pm_InvalidRow cd_InvalidRow ct_InvalidRow : Value}
    {c_NoTarget g_NoTarget N_NoTarget : Addr} {nm_NoTarget q_NoTarget : Str} {bs_NoTarget : List Value} {sn_NoTarget : List Str} {sub_NoTarget : List Value} {ab_NoTarget : Bool} {col_NoTarget : Option Bool} {dd_NoTarget : Option Addr} {m0_NoTarget m1_NoTarget m2_NoTarget m3_NoTarget m5_NoTarget : Option Value}
    {od_NoTarget an_NoTarget : Option Addr} {sl_NoTarget : Array (Option Value)} {oc_NoTarget kV_NoTarget dc_NoTarget pm_NoTarget cd_NoTarget ct_NoTarget : Value}
    {c_NoClass g_NoClass N_NoClass : Addr} {nm_NoClass q_NoClass : Str} {bs_NoClass : List Value} {sn_NoClass : List Str} {sub_NoClass : List Value} {ab_NoClass : Bool} {col_NoClass : Option Bool} {dd_NoClass : Option Addr} {m0_NoClass m1_NoClass m2_NoClass m3_NoClass m5_NoClass : Option Value}
    {od_NoClass an_NoClass : Option Addr} {sl_NoClass : Array (Option Value)} {oc_NoClass kV_NoClass dc_NoClass pm_NoClass cd_NoClass ct_NoClass : Value}
    {c_NoLanding g_NoLanding N_NoLanding : Addr} {nm_NoLanding q_NoLanding : Str} {bs_NoLanding : List Value} {sn_NoLanding : List Str} {sub_NoLanding : List Value} {ab_NoLanding : Bool} {col_NoLanding : Option Bool} {dd_NoLanding : Option Addr} {m0_NoLanding m1_NoLanding m2_NoLanding m3_NoLanding m5_NoLanding : Option Value}
    {od_NoLanding an_NoLanding : Option Addr} {sl_NoLanding : Array (Option Value)} {oc_NoLanding kV_NoLanding dc_NoLanding pm_NoLanding cd_NoLanding ct_NoLanding : Value}
    {c_InvalidRows g_InvalidRows N_InvalidRows : Addr} {nm_InvalidRows q_InvalidRows : Str} {bs_InvalidRows : List Value} {sn_InvalidRows : List Str} {sub_InvalidRows : List Value} {ab_InvalidRows : Bool} {col_InvalidRows : Option Bool} {dd_InvalidRows : Option Addr} {m0_InvalidRows m1_InvalidRows m2_InvalidRows m3_InvalidRows m5_InvalidRows : Option Value}
    {od_InvalidRows an_InvalidRows : Option Addr} {sl_InvalidRows : Array (Option Value)} {oc_InvalidRows kV_InvalidRows dc_InvalidRows pm_InvalidRows cd_InvalidRows ct_InvalidRows : Value}
    {c_InvalidKind g_InvalidKind N_InvalidKind : Addr} {nm_InvalidKind q_InvalidKind : Str} {bs_InvalidKind : List Value} {sn_InvalidKind : List Str} {sub_InvalidKind : List Value} {ab_InvalidKind : Bool} {col_InvalidKind : Option Bool} {dd_InvalidKind : Option Addr} {m0_InvalidKind m1_InvalidKind m2_InvalidKind m3_InvalidKind m5_InvalidKind : Option Value}
    {od_InvalidKind an_InvalidKind : Option Addr} {sl_InvalidKind : Array (Option Value)} {oc_InvalidKind kV_InvalidKind dc_InvalidKind pm_InvalidKind cd_InvalidKind ct_InvalidKind : Value}
    {c_InvalidFrame g_InvalidFrame N_InvalidFrame : Addr} {nm_InvalidFrame q_InvalidFrame : Str} {bs_InvalidFrame : List Value} {sn_InvalidFrame : List Str} {sub_InvalidFrame : List Value} {ab_InvalidFrame : Bool} {col_InvalidFrame : Option Bool} {dd_InvalidFrame : Option Addr} {m0_InvalidFrame m1_InvalidFrame m2_InvalidFrame m3_InvalidFrame m5_InvalidFrame : Option Value}
    {od_InvalidFrame an_InvalidFrame : Option Addr} {sl_InvalidFrame : Array (Option Value)} {oc_InvalidFrame kV_InvalidFrame dc_InvalidFrame pm_InvalidFrame cd_InvalidFrame ct_InvalidFrame : Value}
    {c_InvalidWord g_InvalidWord N_InvalidWord : Addr} {nm_InvalidWord q_InvalidWord : Str} {bs_InvalidWord : List Value} {sn_InvalidWord : List Str} {sub_InvalidWord : List Value} {ab_InvalidWord : Bool} {col_InvalidWord : Option Bool} {dd_InvalidWord : Option Addr} {m0_InvalidWord m1_InvalidWord m2_InvalidWord m3_InvalidWord m5_InvalidWord : Option Value}
    {od_InvalidWord an_InvalidWord : Option Addr} {sl_InvalidWord : Array (Option Value)} {oc_InvalidWord kV_InvalidWord dc_InvalidWord pm_InvalidWord cd_InvalidWord ct_InvalidWord : Value}
    {c_NotReady g_NotReady N_NotReady : Addr} {nm_NotReady q_NotReady : Str} {bs_NotReady : List Value} {sn_NotReady : List Str} {sub_NotReady : List Value} {ab_NotReady : Bool} {col_NotReady : Option Bool} {dd_NotReady : Option Addr} {m0_NotReady m1_NotReady m2_NotReady m3_NotReady m5_NotReady : Option Value}
    {od_NotReady an_NotReady : Option Addr} {sl_NotReady : Array (Option Value)} {oc_NotReady kV_NotReady dc_NotReady pm_NotReady cd_NotReady ct_NotReady : Value}
    {c_TooMany g_TooMany N_TooMany : Addr} {nm_TooMany q_TooMany : Str} {bs_TooMany : List Value} {sn_TooMany : List Str} {sub_TooMany : List Value} {ab_TooMany : Bool} {col_TooMany : Option Bool} {dd_TooMany : Option Addr} {m0_TooMany m1_TooMany m2_TooMany m3_TooMany m5_TooMany : Option Value}
    {od_TooMany an_TooMany : Option Addr} {sl_TooMany : Array (Option Value)} {oc_TooMany kV_TooMany dc_TooMany pm_TooMany cd_TooMany ct_TooMany : Value}
    {c_InvalidAddress g_InvalidAddress N_InvalidAddress : Addr} {nm_InvalidAddress q_InvalidAddress : Str} {bs_InvalidAddress : List Value} {sn_InvalidAddress : List Str} {sub_InvalidAddress : List Value} {ab_InvalidAddress : Bool} {col_InvalidAddress : Option Bool} {dd_InvalidAddress : Option Addr} {m0_InvalidAddress m1_InvalidAddress m2_InvalidAddress m3_InvalidAddress m5_InvalidAddress : Option Value}
    {od_InvalidAddress an_InvalidAddress : Option Addr} {sl_InvalidAddress : Array (Option Value)} {oc_InvalidAddress kV_InvalidAddress dc_InvalidAddress pm_InvalidAddress cd_InvalidAddress ct_InvalidAddress : Value}
    {c_Locked g_Locked N_Locked : Addr} {nm_Locked q_Locked : Str} {bs_Locked : List Value} {sn_Locked : List Str} {sub_Locked : List Value} {ab_Locked : Bool} {col_Locked : Option Bool} {dd_Locked : Option Addr} {m0_Locked m1_Locked m2_Locked m3_Locked m5_Locked : Option Value}
    {od_Locked an_Locked : Option Addr} {sl_Locked : Array (Option Value)} {oc_Locked kV_Locked dc_Locked pm_Locked cd_Locked ct_Locked : Value}
    {c_Blank g_Blank N_Blank : Addr} {nm_Blank q_Blank : Str} {bs_Blank : List Value} {sn_Blank : List Str} {sub_Blank : List Value} {ab_Blank : Bool} {col_Blank : Option Bool} {dd_Blank : Option Addr} {m0_Blank m1_Blank m2_Blank m3_Blank m5_Blank : Option Value}
    {od_Blank an_Blank : Option Addr} {sl_Blank : Array (Option Value)} {oc_Blank kV_Blank dc_Blank pm_Blank cd_Blank ct_Blank : Value}
    {c_StateClash g_StateClash N_StateClash : Addr} {nm_StateClash q_StateClash : Str} {bs_StateClash : List Value} {sn_StateClash : List Str} {sub_StateClash : List Value} {ab_StateClash : Bool} {col_StateClash : Option Bool} {dd_StateClash : Option Addr} {m0_StateClash m1_StateClash m2_StateClash m3_StateClash m5_StateClash : Option Value}
    {od_StateClash an_StateClash : Option Addr} {sl_StateClash : Array (Option Value)} {oc_StateClash kV_StateClash dc_StateClash pm_StateClash cd_StateClash ct_StateClash : Value}
    {c_NoCondition g_NoCondition N_NoCondition : Addr} {nm_NoCondition q_NoCondition : Str} {bs_NoCondition : List Value} {sn_NoCondition : List Str} {sub_NoCondition : List Value} {ab_NoCondition : Bool} {col_NoCondition : Option Bool} {dd_NoCondition : Option Addr} {m0_NoCondition m1_NoCondition m2_NoCondition m3_NoCondition m5_NoCondition : Option Value}
    {od_NoCondition an_NoCondition : Option Addr} {sl_NoCondition : Array (Option Value)} {oc_NoCondition kV_NoCondition dc_NoCondition pm_NoCondition cd_NoCondition ct_NoCondition : Value}
    {c_NoField g_NoField N_NoField : Addr} {nm_NoField q_NoField : Str} {bs_NoField : List Value} {sn_NoField : List Str} {sub_NoField : List Value} {ab_NoField : Bool} {col_NoField : Option Bool} {dd_NoField : Option Addr} {m0_NoField m1_NoField m2_NoField m3_NoField m5_NoField : Option Value}
    {od_NoField an_NoField : Option Addr} {sl_NoField : Array (Option Value)} {oc_NoField kV_NoField dc_NoField pm_NoField cd_NoField ct_NoField : Value}
    {c_NoKind g_NoKind N_NoKind : Addr} {nm_NoKind q_NoKind : Str} {bs_NoKind : List Value} {sn_NoKind : List Str} {sub_NoKind : List Value} {ab_NoKind : Bool} {col_NoKind : Option Bool} {dd_NoKind : Option Addr} {m0_NoKind m1_NoKind m2_NoKind m3_NoKind m5_NoKind : Option Value}
    {od_NoKind an_NoKind : Option Addr} {sl_NoKind : Array (Option Value)} {oc_NoKind kV_NoKind dc_NoKind pm_NoKind cd_NoKind ct_NoKind : Value}
    {c_NoState g_NoState N_NoState : Addr} {nm_NoState q_NoState : Str} {bs_NoState : List Value} {sn_NoState : List Str} {sub_NoState : List Value} {ab_NoState : Bool} {col_NoState : Option Bool} {dd_NoState : Option Addr} {m0_NoState m1_NoState m2_NoState m3_NoState m5_NoState : Option Value}
    {od_NoState an_NoState : Option Addr} {sl_NoState : Array (Option Value)} {oc_NoState kV_NoState dc_NoState pm_NoState cd_NoState ct_NoState : Value}
    {c_Taken g_Taken N_Taken : Addr} {nm_Taken q_Taken : Str} {bs_Taken : List Value} {sn_Taken : List Str} {sub_Taken : List Value} {ab_Taken : Bool} {col_Taken : Option Bool} {dd_Taken : Option Addr} {m0_Taken m1_Taken m2_Taken m3_Taken m5_Taken : Option Value}
    {od_Taken an_Taken : Option Addr} {sl_Taken : Array (Option Value)} {oc_Taken kV_Taken dc_Taken pm_Taken cd_Taken ct_Taken : Value}
    {c_NotPossible g_NotPossible N_NotPossible : Addr} {nm_NotPossible q_NotPossible : Str} {bs_NotPossible : List Value} {sn_NotPossible : List Str} {sub_NotPossible : List Value} {ab_NotPossible : Bool} {col_NotPossible : Option Bool} {dd_NotPossible : Option Addr} {m0_NotPossible m1_NotPossible m2_NotPossible m3_NotPossible m5_NotPossible : Option Value}
    {od_NotPossible an_NotPossible : Option Addr} {sl_NotPossible : Array (Option Value)} {oc_NotPossible kV_NotPossible dc_NotPossible pm_NotPossible cd_NotPossible ct_NotPossible : Value}
    {c_NoCase g_NoCase N_NoCase : Addr} {nm_NoCase q_NoCase : Str} {bs_NoCase : List Value} {sn_NoCase : List Str} {sub_NoCase : List Value} {ab_NoCase : Bool} {col_NoCase : Option Bool} {dd_NoCase : Option Addr} {m0_NoCase m1_NoCase m2_NoCase m3_NoCase m5_NoCase : Option Value}
    {od_NoCase an_NoCase : Option Addr} {sl_NoCase : Array (Option Value)} {oc_NoCase kV_NoCase dc_NoCase pm_NoCase cd_NoCase ct_NoCase : Value}
    {c_WrongCount g_WrongCount N_WrongCount : Addr} {nm_WrongCount q_WrongCount : Str} {bs_WrongCount : List Value} {sn_WrongCount : List Str} {sub_WrongCount : List Value} {ab_WrongCount : Bool} {col_WrongCount : Option Bool} {dd_WrongCount : Option Addr} {m0_WrongCount m1_WrongCount m2_WrongCount m3_WrongCount m5_WrongCount : Option Value}
    {od_WrongCount an_WrongCount : Option Addr} {sl_WrongCount : Array (Option Value)} {oc_WrongCount kV_WrongCount dc_WrongCount pm_WrongCount cd_WrongCount ct_WrongCount : Value}
    {c_TooLarge g_TooLarge N_TooLarge : Addr} {nm_TooLarge q_TooLarge : Str} {bs_TooLarge : List Value} {sn_TooLarge : List Str} {sub_TooLarge : List Value} {ab_TooLarge : Bool} {col_TooLarge : Option Bool} {dd_TooLarge : Option Addr} {m0_TooLarge m1_TooLarge m2_TooLarge m3_TooLarge m5_TooLarge : Option Value}
    {od_TooLarge an_TooLarge : Option Addr} {sl_TooLarge : Array (Option Value)} {oc_TooLarge kV_TooLarge dc_TooLarge pm_TooLarge cd_TooLarge ct_TooLarge : Value}
    {c_InvalidText g_InvalidText N_InvalidText : Addr} {nm_InvalidText q_InvalidText : Str} {bs_InvalidText : List Value} {sn_InvalidText : List Str} {sub_InvalidText : List Value} {ab_InvalidText : Bool} {col_InvalidText : Option Bool} {dd_InvalidText : Option Addr} {m0_InvalidText m1_InvalidText m2_InvalidText m3_InvalidText m5_InvalidText : Option Value}
    {od_InvalidText an_InvalidText : Option Addr} {sl_InvalidText : Array (Option Value)} {oc_InvalidText kV_InvalidText dc_InvalidText pm_InvalidText cd_InvalidText ct_InvalidText : Value}
    {c_FieldClash g_FieldClash N_FieldClash : Addr} {nm_FieldClash q_FieldClash : Str} {bs_FieldClash : List Value} {sn_FieldClash : List Str} {sub_FieldClash : List Value} {ab_FieldClash : Bool} {col_FieldClash : Option Bool} {dd_FieldClash : Option Addr} {m0_FieldClash m1_FieldClash m2_FieldClash m3_FieldClash m5_FieldClash : Option Value}
    {od_FieldClash an_FieldClash : Option Addr} {sl_FieldClash : Array (Option Value)} {oc_FieldClash kV_FieldClash dc_FieldClash pm_FieldClash cd_FieldClash ct_FieldClash : Value}
    {c_Clash g_Clash N_Clash : Addr} {nm_Clash q_Clash : Str} {bs_Clash : List Value} {sn_Clash : List Str} {sub_Clash : List Value} {ab_Clash : Bool} {col_Clash : Option Bool} {dd_Clash : Option Addr} {m0_Clash m1_Clash m2_Clash m3_Clash m5_Clash : Option Value}
    {od_Clash an_Clash : Option Addr} {sl_Clash : Array (Option Value)} {oc_Clash kV_Clash dc_Clash pm_Clash cd_Clash ct_Clash : Value}
    {c_NoStates g_NoStates N_NoStates : Addr} {nm_NoStates q_NoStates : Str} {bs_NoStates : List Value} {sn_NoStates : List Str} {sub_NoStates : List Value} {ab_NoStates : Bool} {col_NoStates : Option Bool} {dd_NoStates : Option Addr} {m0_NoStates m1_NoStates m2_NoStates m3_NoStates m5_NoStates : Option Value}
    {od_NoStates an_NoStates : Option Addr} {sl_NoStates : Array (Option Value)} {oc_NoStates kV_NoStates dc_NoStates pm_NoStates cd_NoStates ct_NoStates : Value}
    {c_NoEntries g_NoEntries N_NoEntries : Addr} {nm_NoEntries q_NoEntries : Str} {bs_NoEntries : List Value} {sn_NoEntries : List Str} {sub_NoEntries : List Value} {ab_NoEntries : Bool} {col_NoEntries : Option Bool} {dd_NoEntries : Option Addr} {m0_NoEntries m1_NoEntries m2_NoEntries m3_NoEntries m5_NoEntries : Option Value}
    {od_NoEntries an_NoEntries : Option Addr} {sl_NoEntries : Array (Option Value)} {oc_NoEntries kV_NoEntries dc_NoEntries pm_NoEntries cd_NoEntries ct_NoEntries : Value}
    {c_NotEnd g_NotEnd N_NotEnd : Addr} {nm_NotEnd q_NotEnd : Str} {bs_NotEnd : List Value} {sn_NotEnd : List Str} {sub_NotEnd : List Value} {ab_NotEnd : Bool} {col_NotEnd : Option Bool} {dd_NotEnd : Option Addr} {m0_NotEnd m1_NotEnd m2_NotEnd m3_NotEnd m5_NotEnd : Option Value}
    {od_NotEnd an_NotEnd : Option Addr} {sl_NotEnd : Array (Option Value)} {oc_NotEnd kV_NotEnd dc_NotEnd pm_NotEnd cd_NotEnd ct_NotEnd : Value}
    {c_NotCarried g_NotCarried N_NotCarried : Addr} {nm_NotCarried q_NotCarried : Str} {bs_NotCarried : List Value} {sn_NotCarried : List Str} {sub_NotCarried : List Value} {ab_NotCarried : Bool} {col_NotCarried : Option Bool} {dd_NotCarried : Option Addr} {m0_NotCarried m1_NotCarried m2_NotCarried m3_NotCarried m5_NotCarried : Option Value}
    {od_NotCarried an_NotCarried : Option Addr} {sl_NotCarried : Array (Option Value)} {oc_NotCarried kV_NotCarried dc_NotCarried pm_NotCarried cd_NotCarried ct_NotCarried : Value}
    {c_Unlike g_Unlike N_Unlike : Addr} {nm_Unlike q_Unlike : Str} {bs_Unlike : List Value} {sn_Unlike : List Str} {sub_Unlike : List Value} {ab_Unlike : Bool} {col_Unlike : Option Bool} {dd_Unlike : Option Addr} {m0_Unlike m1_Unlike m2_Unlike m3_Unlike m5_Unlike : Option Value}
    {od_Unlike an_Unlike : Option Addr} {sl_Unlike : Array (Option Value)} {oc_Unlike kV_Unlike dc_Unlike pm_Unlike cd_Unlike ct_Unlike : Value}
    (a1 : PySem.W.nsIn K mainGlobals "_law_pen" = some (some (.ref f1))) (l1 : K.lookup f1 = some ⟨oc1, od1, .func (PySem.W.fnOf "_law_pen" "_law_pen" (defArgs s__law_pen) (defBody s__law_pen) (defScope s__law_pen) .none kV1 dc1 pm1 an1 cd1 ct1), sl1⟩) (c1 : PySem.W.codeIn K cd1 "_law_pen" = true) (k1 : PySem.W.keepIn K (.ref f1) = true)
    (a2 : PySem.W.nsIn K mainGlobals "_law_draw" = some (some (.ref f2))) (l2 : K.lookup f2 = some ⟨oc2, od2, .func (PySem.W.fnOf "_law_draw" "_law_draw" (defArgs s__law_draw) (defBody s__law_draw) (defScope s__law_draw) .none kV2 dc2 pm2 an2 cd2 ct2), sl2⟩) (c2 : PySem.W.codeIn K cd2 "_law_draw" = true) (k2 : PySem.W.keepIn K (.ref f2) = true)
    (a3 : PySem.W.nsIn K mainGlobals "_law_pick" = some (some (.ref f3))) (l3 : K.lookup f3 = some ⟨oc3, od3, .func (PySem.W.fnOf "_law_pick" "_law_pick" (defArgs s__law_pick) (defBody s__law_pick) (defScope s__law_pick) .none kV3 dc3 pm3 an3 cd3 ct3), sl3⟩) (c3 : PySem.W.codeIn K cd3 "_law_pick" = true) (k3 : PySem.W.keepIn K (.ref f3) = true)
    (a4 : PySem.W.nsIn K mainGlobals "_law_thing" = some (some (.ref f4))) (l4 : K.lookup f4 = some ⟨oc4, od4, .func (PySem.W.fnOf "_law_thing" "_law_thing" (defArgs s__law_thing) (defBody s__law_thing) (defScope s__law_thing) .none kV4 dc4 pm4 an4 cd4 ct4), sl4⟩) (c4 : PySem.W.codeIn K cd4 "_law_thing" = true) (k4 : PySem.W.keepIn K (.ref f4) = true)
    (a5 : PySem.W.nsIn K mainGlobals "_law_kinds" = some (some (.ref f5))) (l5 : K.lookup f5 = some ⟨oc5, od5, .func (PySem.W.fnOf "_law_kinds" "_law_kinds" (defArgs s__law_kinds) (defBody s__law_kinds) (defScope s__law_kinds) .none kV5 dc5 pm5 an5 cd5 ct5), sl5⟩) (c5 : PySem.W.codeIn K cd5 "_law_kinds" = true) (k5 : PySem.W.keepIn K (.ref f5) = true)
    (a6 : PySem.W.nsIn K mainGlobals "_law_is_based" = some (some (.ref f6))) (l6 : K.lookup f6 = some ⟨oc6, od6, .func (PySem.W.fnOf "_law_is_based" "_law_is_based" (defArgs s__law_is_based) (defBody s__law_is_based) (defScope s__law_is_based) .none kV6 dc6 pm6 an6 cd6 ct6), sl6⟩) (c6 : PySem.W.codeIn K cd6 "_law_is_based" = true) (k6 : PySem.W.keepIn K (.ref f6) = true)
    (a7 : PySem.W.nsIn K mainGlobals "_law_values" = some (some (.ref f7))) (l7 : K.lookup f7 = some ⟨oc7, od7, .func (PySem.W.fnOf "_law_values" "_law_values" (defArgs s__law_values) (defBody s__law_values) (defScope s__law_values) .none kV7 dc7 pm7 an7 cd7 ct7), sl7⟩) (c7 : PySem.W.codeIn K cd7 "_law_values" = true) (k7 : PySem.W.keepIn K (.ref f7) = true)
    (a8 : PySem.W.nsIn K mainGlobals "_law_places" = some (some (.ref f8))) (l8 : K.lookup f8 = some ⟨oc8, od8, .func (PySem.W.fnOf "_law_places" "_law_places" (defArgs s__law_places) (defBody s__law_places) (defScope s__law_places) .none kV8 dc8 pm8 an8 cd8 ct8), sl8⟩) (c8 : PySem.W.codeIn K cd8 "_law_places" = true) (k8 : PySem.W.keepIn K (.ref f8) = true)
    (a9 : PySem.W.nsIn K mainGlobals "_law_several_right" = some (some (.ref f9))) (l9 : K.lookup f9 = some ⟨oc9, od9, .func (PySem.W.fnOf "_law_several_right" "_law_several_right" (defArgs s__law_several_right) (defBody s__law_several_right) (defScope s__law_several_right) .none kV9 dc9 pm9 an9 cd9 ct9), sl9⟩) (c9 : PySem.W.codeIn K cd9 "_law_several_right" = true) (k9 : PySem.W.keepIn K (.ref f9) = true)
    (a10 : PySem.W.nsIn K mainGlobals "law" = some (some (.ref f10))) (l10 : K.lookup f10 = some ⟨oc10, od10, .func (PySem.W.fnOf "law" "law" (defArgs s_law) (defBody s_law) (defScope s_law) .none kV10 dc10 pm10 an10 cd10 ct10), sl10⟩) (c10 : PySem.W.codeIn K cd10 "law" = true) (k10 : PySem.W.keepIn K (.ref f10) = true)
    (z_ArithmeticError : PySem.W.nsIn K mainGlobals "ArithmeticError" = some none)
    (z_IndexError : PySem.W.nsIn K mainGlobals "IndexError" = some none)
    (z_KeyError : PySem.W.nsIn K mainGlobals "KeyError" = some none)
    (z_LookupError : PySem.W.nsIn K mainGlobals "LookupError" = some none)
    (z_OverflowError : PySem.W.nsIn K mainGlobals "OverflowError" = some none)
    (z_RuntimeError : PySem.W.nsIn K mainGlobals "RuntimeError" = some none)
    (z_TypeError : PySem.W.nsIn K mainGlobals "TypeError" = some none)
    (z_ValueError : PySem.W.nsIn K mainGlobals "ValueError" = some none)
    (z_abs : PySem.W.nsIn K mainGlobals "abs" = some none)
    (z_enumerate : PySem.W.nsIn K mainGlobals "enumerate" = some none)
    (z_int : PySem.W.nsIn K mainGlobals "int" = some none)
    (z_isinstance : PySem.W.nsIn K mainGlobals "isinstance" = some none)
    (z_len : PySem.W.nsIn K mainGlobals "len" = some none)
    (z_list : PySem.W.nsIn K mainGlobals "list" = some none)
    (z_range : PySem.W.nsIn K mainGlobals "range" = some none)
    (z_repr : PySem.W.nsIn K mainGlobals "repr" = some none)
    (aO : PySem.W.nsIn K mainGlobals "OrError" = some (some (.ref cO)))
    (aC_InvalidName : PySem.W.nsIn K mainGlobals "InvalidName" = some (some (.ref c_InvalidName))) (xL_InvalidName : K.lookup c_InvalidName = some (excClassObj nm_InvalidName q_InvalidName c_InvalidName N_InvalidName bs_InvalidName [.ref cO, .type "ValueError", .type "Exception", .type "BaseException", .type "object"] true sn_InvalidName sub_InvalidName ab_InvalidName col_InvalidName dd_InvalidName m0_InvalidName m1_InvalidName m2_InvalidName m3_InvalidName m5_InvalidName "ValueError.__new__"))
    (iC_InvalidName : PySem.W.findIn K (.ref c_InvalidName) "__init__" = some (some (.ref g_InvalidName))) (iT_InvalidName : PySem.W.typeIn K (.ref g_InvalidName) = some (.type "function")) (lC_InvalidName : K.lookup g_InvalidName = some ⟨oc_InvalidName, od_InvalidName, .func (PySem.W.fnOf "__init__" "InvalidName.__init__" (defArgs s_InvalidName_init) (defBody s_InvalidName_init) (defScope s_InvalidName_init) .none kV_InvalidName dc_InvalidName pm_InvalidName an_InvalidName cd_InvalidName ct_InvalidName), sl_InvalidName⟩) (cC_InvalidName : PySem.W.codeIn K cd_InvalidName "InvalidName.__init__" = true) (kC_InvalidName : PySem.W.keepIn K (.ref g_InvalidName) = true)
    (sa_InvalidName : PySem.W.findIn K (.ref c_InvalidName) "__setattr__" = some (some (.builtin "object.__setattr__"))) (eC_InvalidName : PySem.W.subIn K (.ref c_InvalidName) (.type "BaseException") = some true) (tC_InvalidName : PySem.W.typeIn K (.ref c_InvalidName) = some (.type "type")) (pC_InvalidName : PySem.W.keepIn K (.ref c_InvalidName) = true) (ga_InvalidName : PySem.W.findIn K (.ref c_InvalidName) "__getattribute__" = some (some (.builtin "BaseException.__getattribute__"))) (gg_InvalidName : PySem.W.findIn K (.ref c_InvalidName) "__getattr__" = some none) (cl_InvalidName : PySem.W.findIn K (.ref c_InvalidName) "__class__" = some (some (.builtin "object.__class__"))) (hd_InvalidName : PySem.W.hasDictIn K c_InvalidName = true) (ic_InvalidName : PySem.W.isClsIn K c_InvalidName = true) (ob_InvalidName : PySem.W.mroIn K c_InvalidName (.type "object") = some true)
    (no_InvalidName_value : PySem.W.findIn K (.ref c_InvalidName) "value" = some none)
    (aC_InvalidNumber : PySem.W.nsIn K mainGlobals "InvalidNumber" = some (some (.ref c_InvalidNumber))) (xL_InvalidNumber : K.lookup c_InvalidNumber = some (excClassObj nm_InvalidNumber q_InvalidNumber c_InvalidNumber N_InvalidNumber bs_InvalidNumber [.ref cO, .type "ValueError", .type "Exception", .type "BaseException", .type "object"] true sn_InvalidNumber sub_InvalidNumber ab_InvalidNumber col_InvalidNumber dd_InvalidNumber m0_InvalidNumber m1_InvalidNumber m2_InvalidNumber m3_InvalidNumber m5_InvalidNumber "ValueError.__new__"))
    (iC_InvalidNumber : PySem.W.findIn K (.ref c_InvalidNumber) "__init__" = some (some (.ref g_InvalidNumber))) (iT_InvalidNumber : PySem.W.typeIn K (.ref g_InvalidNumber) = some (.type "function")) (lC_InvalidNumber : K.lookup g_InvalidNumber = some ⟨oc_InvalidNumber, od_InvalidNumber, .func (PySem.W.fnOf "__init__" "InvalidNumber.__init__" (defArgs s_InvalidNumber_init) (defBody s_InvalidNumber_init) (defScope s_InvalidNumber_init) .none kV_InvalidNumber dc_InvalidNumber pm_InvalidNumber an_InvalidNumber cd_InvalidNumber ct_InvalidNumber), sl_InvalidNumber⟩) (cC_InvalidNumber : PySem.W.codeIn K cd_InvalidNumber "InvalidNumber.__init__" = true) (kC_InvalidNumber : PySem.W.keepIn K (.ref g_InvalidNumber) = true)
    (sa_InvalidNumber : PySem.W.findIn K (.ref c_InvalidNumber) "__setattr__" = some (some (.builtin "object.__setattr__"))) (eC_InvalidNumber : PySem.W.subIn K (.ref c_InvalidNumber) (.type "BaseException") = some true) (tC_InvalidNumber : PySem.W.typeIn K (.ref c_InvalidNumber) = some (.type "type")) (pC_InvalidNumber : PySem.W.keepIn K (.ref c_InvalidNumber) = true) (ga_InvalidNumber : PySem.W.findIn K (.ref c_InvalidNumber) "__getattribute__" = some (some (.builtin "BaseException.__getattribute__"))) (gg_InvalidNumber : PySem.W.findIn K (.ref c_InvalidNumber) "__getattr__" = some none) (cl_InvalidNumber : PySem.W.findIn K (.ref c_InvalidNumber) "__class__" = some (some (.builtin "object.__class__"))) (hd_InvalidNumber : PySem.W.hasDictIn K c_InvalidNumber = true) (ic_InvalidNumber : PySem.W.isClsIn K c_InvalidNumber = true) (ob_InvalidNumber : PySem.W.mroIn K c_InvalidNumber (.type "object") = some true)
    (no_InvalidNumber_value : PySem.W.findIn K (.ref c_InvalidNumber) "value" = some none)
    (aC_InvalidRow : PySem.W.nsIn K mainGlobals "InvalidRow" = some (some (.ref c_InvalidRow))) (xL_InvalidRow : K.lookup c_InvalidRow = some (excClassObj nm_InvalidRow q_InvalidRow c_InvalidRow N_InvalidRow bs_InvalidRow [.ref cO, .type "ValueError", .type "Exception", .type "BaseException", .type "object"] true sn_InvalidRow sub_InvalidRow ab_InvalidRow col_InvalidRow dd_InvalidRow m0_InvalidRow m1_InvalidRow m2_InvalidRow m3_InvalidRow m5_InvalidRow "ValueError.__new__"))
    (iC_InvalidRow : PySem.W.findIn K (.ref c_InvalidRow) "__init__" = some (some (.ref g_InvalidRow))) (iT_InvalidRow : PySem.W.typeIn K (.ref g_InvalidRow) = some (.type "function")) (lC_InvalidRow : K.lookup g_InvalidRow = some ⟨oc_InvalidRow, od_InvalidRow, .func (PySem.W.fnOf "__init__" "InvalidRow.__init__" (defArgs s_InvalidRow_init) (defBody s_InvalidRow_init) (defScope s_InvalidRow_init) .none kV_InvalidRow dc_InvalidRow pm_InvalidRow an_InvalidRow cd_InvalidRow ct_InvalidRow), sl_InvalidRow⟩) (cC_InvalidRow : PySem.W.codeIn K cd_InvalidRow "InvalidRow.__init__" = true) (kC_InvalidRow : PySem.W.keepIn K (.ref g_InvalidRow) = true)
    (sa_InvalidRow : PySem.W.findIn K (.ref c_InvalidRow) "__setattr__" = some (some (.builtin "object.__setattr__"))) (eC_InvalidRow : PySem.W.subIn K (.ref c_InvalidRow) (.type "BaseException") = some true) (tC_InvalidRow : PySem.W.typeIn K (.ref c_InvalidRow) = some (.type "type")) (pC_InvalidRow : PySem.W.keepIn K (.ref c_InvalidRow) = true) (ga_InvalidRow : PySem.W.findIn K (.ref c_InvalidRow) "__getattribute__" = some (some (.builtin "BaseException.__getattribute__"))) (gg_InvalidRow : PySem.W.findIn K (.ref c_InvalidRow) "__getattr__" = some none) (cl_InvalidRow : PySem.W.findIn K (.ref c_InvalidRow) "__class__" = some (some (.builtin "object.__class__"))) (hd_InvalidRow : PySem.W.hasDictIn K c_InvalidRow = true) (ic_InvalidRow : PySem.W.isClsIn K c_InvalidRow = true) (ob_InvalidRow : PySem.W.mroIn K c_InvalidRow (.type "object") = some true)
    (no_InvalidRow_value : PySem.W.findIn K (.ref c_InvalidRow) "value" = some none)
    (aC_NoTarget : PySem.W.nsIn K mainGlobals "NoTarget" = some (some (.ref c_NoTarget))) (xL_NoTarget : K.lookup c_NoTarget = some (excClassObj nm_NoTarget q_NoTarget c_NoTarget N_NoTarget bs_NoTarget [.ref cO, .type "ValueError", .type "Exception", .type "BaseException", .type "object"] true sn_NoTarget sub_NoTarget ab_NoTarget col_NoTarget dd_NoTarget m0_NoTarget m1_NoTarget m2_NoTarget m3_NoTarget m5_NoTarget "ValueError.__new__"))
    (iC_NoTarget : PySem.W.findIn K (.ref c_NoTarget) "__init__" = some (some (.ref g_NoTarget))) (iT_NoTarget : PySem.W.typeIn K (.ref g_NoTarget) = some (.type "function")) (lC_NoTarget : K.lookup g_NoTarget = some ⟨oc_NoTarget, od_NoTarget, .func (PySem.W.fnOf "__init__" "NoTarget.__init__" (defArgs s_NoTarget_init) (defBody s_NoTarget_init) (defScope s_NoTarget_init) .none kV_NoTarget dc_NoTarget pm_NoTarget an_NoTarget cd_NoTarget ct_NoTarget), sl_NoTarget⟩) (cC_NoTarget : PySem.W.codeIn K cd_NoTarget "NoTarget.__init__" = true) (kC_NoTarget : PySem.W.keepIn K (.ref g_NoTarget) = true)
    (sa_NoTarget : PySem.W.findIn K (.ref c_NoTarget) "__setattr__" = some (some (.builtin "object.__setattr__"))) (eC_NoTarget : PySem.W.subIn K (.ref c_NoTarget) (.type "BaseException") = some true) (tC_NoTarget : PySem.W.typeIn K (.ref c_NoTarget) = some (.type "type")) (pC_NoTarget : PySem.W.keepIn K (.ref c_NoTarget) = true) (ga_NoTarget : PySem.W.findIn K (.ref c_NoTarget) "__getattribute__" = some (some (.builtin "BaseException.__getattribute__"))) (gg_NoTarget : PySem.W.findIn K (.ref c_NoTarget) "__getattr__" = some none) (cl_NoTarget : PySem.W.findIn K (.ref c_NoTarget) "__class__" = some (some (.builtin "object.__class__"))) (hd_NoTarget : PySem.W.hasDictIn K c_NoTarget = true) (ic_NoTarget : PySem.W.isClsIn K c_NoTarget = true) (ob_NoTarget : PySem.W.mroIn K c_NoTarget (.type "object") = some true)
    (no_NoTarget_value : PySem.W.findIn K (.ref c_NoTarget) "value" = some none)
    (aC_NoClass : PySem.W.nsIn K mainGlobals "NoClass" = some (some (.ref c_NoClass))) (xL_NoClass : K.lookup c_NoClass = some (excClassObj nm_NoClass q_NoClass c_NoClass N_NoClass bs_NoClass [.ref cO, .type "ValueError", .type "Exception", .type "BaseException", .type "object"] true sn_NoClass sub_NoClass ab_NoClass col_NoClass dd_NoClass m0_NoClass m1_NoClass m2_NoClass m3_NoClass m5_NoClass "ValueError.__new__"))
    (iC_NoClass : PySem.W.findIn K (.ref c_NoClass) "__init__" = some (some (.ref g_NoClass))) (iT_NoClass : PySem.W.typeIn K (.ref g_NoClass) = some (.type "function")) (lC_NoClass : K.lookup g_NoClass = some ⟨oc_NoClass, od_NoClass, .func (PySem.W.fnOf "__init__" "NoClass.__init__" (defArgs s_NoClass_init) (defBody s_NoClass_init) (defScope s_NoClass_init) .none kV_NoClass dc_NoClass pm_NoClass an_NoClass cd_NoClass ct_NoClass), sl_NoClass⟩) (cC_NoClass : PySem.W.codeIn K cd_NoClass "NoClass.__init__" = true) (kC_NoClass : PySem.W.keepIn K (.ref g_NoClass) = true)
    (sa_NoClass : PySem.W.findIn K (.ref c_NoClass) "__setattr__" = some (some (.builtin "object.__setattr__"))) (eC_NoClass : PySem.W.subIn K (.ref c_NoClass) (.type "BaseException") = some true) (tC_NoClass : PySem.W.typeIn K (.ref c_NoClass) = some (.type "type")) (pC_NoClass : PySem.W.keepIn K (.ref c_NoClass) = true) (ga_NoClass : PySem.W.findIn K (.ref c_NoClass) "__getattribute__" = some (some (.builtin "BaseException.__getattribute__"))) (gg_NoClass : PySem.W.findIn K (.ref c_NoClass) "__getattr__" = some none) (cl_NoClass : PySem.W.findIn K (.ref c_NoClass) "__class__" = some (some (.builtin "object.__class__"))) (hd_NoClass : PySem.W.hasDictIn K c_NoClass = true) (ic_NoClass : PySem.W.isClsIn K c_NoClass = true) (ob_NoClass : PySem.W.mroIn K c_NoClass (.type "object") = some true)
    (no_NoClass_value : PySem.W.findIn K (.ref c_NoClass) "value" = some none)
    (aC_NoLanding : PySem.W.nsIn K mainGlobals "NoLanding" = some (some (.ref c_NoLanding))) (xL_NoLanding : K.lookup c_NoLanding = some (excClassObj nm_NoLanding q_NoLanding c_NoLanding N_NoLanding bs_NoLanding [.ref cO, .type "ValueError", .type "Exception", .type "BaseException", .type "object"] true sn_NoLanding sub_NoLanding ab_NoLanding col_NoLanding dd_NoLanding m0_NoLanding m1_NoLanding m2_NoLanding m3_NoLanding m5_NoLanding "ValueError.__new__"))
    (iC_NoLanding : PySem.W.findIn K (.ref c_NoLanding) "__init__" = some (some (.ref g_NoLanding))) (iT_NoLanding : PySem.W.typeIn K (.ref g_NoLanding) = some (.type "function")) (lC_NoLanding : K.lookup g_NoLanding = some ⟨oc_NoLanding, od_NoLanding, .func (PySem.W.fnOf "__init__" "NoLanding.__init__" (defArgs s_NoLanding_init) (defBody s_NoLanding_init) (defScope s_NoLanding_init) .none kV_NoLanding dc_NoLanding pm_NoLanding an_NoLanding cd_NoLanding ct_NoLanding), sl_NoLanding⟩) (cC_NoLanding : PySem.W.codeIn K cd_NoLanding "NoLanding.__init__" = true) (kC_NoLanding : PySem.W.keepIn K (.ref g_NoLanding) = true)
    (sa_NoLanding : PySem.W.findIn K (.ref c_NoLanding) "__setattr__" = some (some (.builtin "object.__setattr__"))) (eC_NoLanding : PySem.W.subIn K (.ref c_NoLanding) (.type "BaseException") = some true) (tC_NoLanding : PySem.W.typeIn K (.ref c_NoLanding) = some (.type "type")) (pC_NoLanding : PySem.W.keepIn K (.ref c_NoLanding) = true) (ga_NoLanding : PySem.W.findIn K (.ref c_NoLanding) "__getattribute__" = some (some (.builtin "BaseException.__getattribute__"))) (gg_NoLanding : PySem.W.findIn K (.ref c_NoLanding) "__getattr__" = some none) (cl_NoLanding : PySem.W.findIn K (.ref c_NoLanding) "__class__" = some (some (.builtin "object.__class__"))) (hd_NoLanding : PySem.W.hasDictIn K c_NoLanding = true) (ic_NoLanding : PySem.W.isClsIn K c_NoLanding = true) (ob_NoLanding : PySem.W.mroIn K c_NoLanding (.type "object") = some true)
    (no_NoLanding_value : PySem.W.findIn K (.ref c_NoLanding) "value" = some none)
    (aC_InvalidRows : PySem.W.nsIn K mainGlobals "InvalidRows" = some (some (.ref c_InvalidRows))) (xL_InvalidRows : K.lookup c_InvalidRows = some (excClassObj nm_InvalidRows q_InvalidRows c_InvalidRows N_InvalidRows bs_InvalidRows [.ref cO, .type "ValueError", .type "Exception", .type "BaseException", .type "object"] true sn_InvalidRows sub_InvalidRows ab_InvalidRows col_InvalidRows dd_InvalidRows m0_InvalidRows m1_InvalidRows m2_InvalidRows m3_InvalidRows m5_InvalidRows "ValueError.__new__"))
    (iC_InvalidRows : PySem.W.findIn K (.ref c_InvalidRows) "__init__" = some (some (.ref g_InvalidRows))) (iT_InvalidRows : PySem.W.typeIn K (.ref g_InvalidRows) = some (.type "function")) (lC_InvalidRows : K.lookup g_InvalidRows = some ⟨oc_InvalidRows, od_InvalidRows, .func (PySem.W.fnOf "__init__" "InvalidRows.__init__" (defArgs s_InvalidRows_init) (defBody s_InvalidRows_init) (defScope s_InvalidRows_init) .none kV_InvalidRows dc_InvalidRows pm_InvalidRows an_InvalidRows cd_InvalidRows ct_InvalidRows), sl_InvalidRows⟩) (cC_InvalidRows : PySem.W.codeIn K cd_InvalidRows "InvalidRows.__init__" = true) (kC_InvalidRows : PySem.W.keepIn K (.ref g_InvalidRows) = true)
    (sa_InvalidRows : PySem.W.findIn K (.ref c_InvalidRows) "__setattr__" = some (some (.builtin "object.__setattr__"))) (eC_InvalidRows : PySem.W.subIn K (.ref c_InvalidRows) (.type "BaseException") = some true) (tC_InvalidRows : PySem.W.typeIn K (.ref c_InvalidRows) = some (.type "type")) (pC_InvalidRows : PySem.W.keepIn K (.ref c_InvalidRows) = true) (ga_InvalidRows : PySem.W.findIn K (.ref c_InvalidRows) "__getattribute__" = some (some (.builtin "BaseException.__getattribute__"))) (gg_InvalidRows : PySem.W.findIn K (.ref c_InvalidRows) "__getattr__" = some none) (cl_InvalidRows : PySem.W.findIn K (.ref c_InvalidRows) "__class__" = some (some (.builtin "object.__class__"))) (hd_InvalidRows : PySem.W.hasDictIn K c_InvalidRows = true) (ic_InvalidRows : PySem.W.isClsIn K c_InvalidRows = true) (ob_InvalidRows : PySem.W.mroIn K c_InvalidRows (.type "object") = some true)
    (no_InvalidRows_part : PySem.W.findIn K (.ref c_InvalidRows) "part" = some none)
    (aC_InvalidKind : PySem.W.nsIn K mainGlobals "InvalidKind" = some (some (.ref c_InvalidKind))) (xL_InvalidKind : K.lookup c_InvalidKind = some (excClassObj nm_InvalidKind q_InvalidKind c_InvalidKind N_InvalidKind bs_InvalidKind [.ref cO, .type "ValueError", .type "Exception", .type "BaseException", .type "object"] true sn_InvalidKind sub_InvalidKind ab_InvalidKind col_InvalidKind dd_InvalidKind m0_InvalidKind m1_InvalidKind m2_InvalidKind m3_InvalidKind m5_InvalidKind "ValueError.__new__"))
    (iC_InvalidKind : PySem.W.findIn K (.ref c_InvalidKind) "__init__" = some (some (.ref g_InvalidKind))) (iT_InvalidKind : PySem.W.typeIn K (.ref g_InvalidKind) = some (.type "function")) (lC_InvalidKind : K.lookup g_InvalidKind = some ⟨oc_InvalidKind, od_InvalidKind, .func (PySem.W.fnOf "__init__" "InvalidKind.__init__" (defArgs s_InvalidKind_init) (defBody s_InvalidKind_init) (defScope s_InvalidKind_init) .none kV_InvalidKind dc_InvalidKind pm_InvalidKind an_InvalidKind cd_InvalidKind ct_InvalidKind), sl_InvalidKind⟩) (cC_InvalidKind : PySem.W.codeIn K cd_InvalidKind "InvalidKind.__init__" = true) (kC_InvalidKind : PySem.W.keepIn K (.ref g_InvalidKind) = true)
    (sa_InvalidKind : PySem.W.findIn K (.ref c_InvalidKind) "__setattr__" = some (some (.builtin "object.__setattr__"))) (eC_InvalidKind : PySem.W.subIn K (.ref c_InvalidKind) (.type "BaseException") = some true) (tC_InvalidKind : PySem.W.typeIn K (.ref c_InvalidKind) = some (.type "type")) (pC_InvalidKind : PySem.W.keepIn K (.ref c_InvalidKind) = true) (ga_InvalidKind : PySem.W.findIn K (.ref c_InvalidKind) "__getattribute__" = some (some (.builtin "BaseException.__getattribute__"))) (gg_InvalidKind : PySem.W.findIn K (.ref c_InvalidKind) "__getattr__" = some none) (cl_InvalidKind : PySem.W.findIn K (.ref c_InvalidKind) "__class__" = some (some (.builtin "object.__class__"))) (hd_InvalidKind : PySem.W.hasDictIn K c_InvalidKind = true) (ic_InvalidKind : PySem.W.isClsIn K c_InvalidKind = true) (ob_InvalidKind : PySem.W.mroIn K c_InvalidKind (.type "object") = some true)
    (no_InvalidKind_part : PySem.W.findIn K (.ref c_InvalidKind) "part" = some none)
    (aC_InvalidFrame : PySem.W.nsIn K mainGlobals "InvalidFrame" = some (some (.ref c_InvalidFrame))) (xL_InvalidFrame : K.lookup c_InvalidFrame = some (excClassObj nm_InvalidFrame q_InvalidFrame c_InvalidFrame N_InvalidFrame bs_InvalidFrame [.ref cO, .type "ValueError", .type "Exception", .type "BaseException", .type "object"] true sn_InvalidFrame sub_InvalidFrame ab_InvalidFrame col_InvalidFrame dd_InvalidFrame m0_InvalidFrame m1_InvalidFrame m2_InvalidFrame m3_InvalidFrame m5_InvalidFrame "ValueError.__new__"))
    (iC_InvalidFrame : PySem.W.findIn K (.ref c_InvalidFrame) "__init__" = some (some (.ref g_InvalidFrame))) (iT_InvalidFrame : PySem.W.typeIn K (.ref g_InvalidFrame) = some (.type "function")) (lC_InvalidFrame : K.lookup g_InvalidFrame = some ⟨oc_InvalidFrame, od_InvalidFrame, .func (PySem.W.fnOf "__init__" "InvalidFrame.__init__" (defArgs s_InvalidFrame_init) (defBody s_InvalidFrame_init) (defScope s_InvalidFrame_init) .none kV_InvalidFrame dc_InvalidFrame pm_InvalidFrame an_InvalidFrame cd_InvalidFrame ct_InvalidFrame), sl_InvalidFrame⟩) (cC_InvalidFrame : PySem.W.codeIn K cd_InvalidFrame "InvalidFrame.__init__" = true) (kC_InvalidFrame : PySem.W.keepIn K (.ref g_InvalidFrame) = true)
    (sa_InvalidFrame : PySem.W.findIn K (.ref c_InvalidFrame) "__setattr__" = some (some (.builtin "object.__setattr__"))) (eC_InvalidFrame : PySem.W.subIn K (.ref c_InvalidFrame) (.type "BaseException") = some true) (tC_InvalidFrame : PySem.W.typeIn K (.ref c_InvalidFrame) = some (.type "type")) (pC_InvalidFrame : PySem.W.keepIn K (.ref c_InvalidFrame) = true) (ga_InvalidFrame : PySem.W.findIn K (.ref c_InvalidFrame) "__getattribute__" = some (some (.builtin "BaseException.__getattribute__"))) (gg_InvalidFrame : PySem.W.findIn K (.ref c_InvalidFrame) "__getattr__" = some none) (cl_InvalidFrame : PySem.W.findIn K (.ref c_InvalidFrame) "__class__" = some (some (.builtin "object.__class__"))) (hd_InvalidFrame : PySem.W.hasDictIn K c_InvalidFrame = true) (ic_InvalidFrame : PySem.W.isClsIn K c_InvalidFrame = true) (ob_InvalidFrame : PySem.W.mroIn K c_InvalidFrame (.type "object") = some true)
    (no_InvalidFrame_part : PySem.W.findIn K (.ref c_InvalidFrame) "part" = some none)
    (aC_InvalidWord : PySem.W.nsIn K mainGlobals "InvalidWord" = some (some (.ref c_InvalidWord))) (xL_InvalidWord : K.lookup c_InvalidWord = some (excClassObj nm_InvalidWord q_InvalidWord c_InvalidWord N_InvalidWord bs_InvalidWord [.ref cO, .type "ValueError", .type "Exception", .type "BaseException", .type "object"] true sn_InvalidWord sub_InvalidWord ab_InvalidWord col_InvalidWord dd_InvalidWord m0_InvalidWord m1_InvalidWord m2_InvalidWord m3_InvalidWord m5_InvalidWord "ValueError.__new__"))
    (iC_InvalidWord : PySem.W.findIn K (.ref c_InvalidWord) "__init__" = some (some (.ref g_InvalidWord))) (iT_InvalidWord : PySem.W.typeIn K (.ref g_InvalidWord) = some (.type "function")) (lC_InvalidWord : K.lookup g_InvalidWord = some ⟨oc_InvalidWord, od_InvalidWord, .func (PySem.W.fnOf "__init__" "InvalidWord.__init__" (defArgs s_InvalidWord_init) (defBody s_InvalidWord_init) (defScope s_InvalidWord_init) .none kV_InvalidWord dc_InvalidWord pm_InvalidWord an_InvalidWord cd_InvalidWord ct_InvalidWord), sl_InvalidWord⟩) (cC_InvalidWord : PySem.W.codeIn K cd_InvalidWord "InvalidWord.__init__" = true) (kC_InvalidWord : PySem.W.keepIn K (.ref g_InvalidWord) = true)
    (sa_InvalidWord : PySem.W.findIn K (.ref c_InvalidWord) "__setattr__" = some (some (.builtin "object.__setattr__"))) (eC_InvalidWord : PySem.W.subIn K (.ref c_InvalidWord) (.type "BaseException") = some true) (tC_InvalidWord : PySem.W.typeIn K (.ref c_InvalidWord) = some (.type "type")) (pC_InvalidWord : PySem.W.keepIn K (.ref c_InvalidWord) = true) (ga_InvalidWord : PySem.W.findIn K (.ref c_InvalidWord) "__getattribute__" = some (some (.builtin "BaseException.__getattribute__"))) (gg_InvalidWord : PySem.W.findIn K (.ref c_InvalidWord) "__getattr__" = some none) (cl_InvalidWord : PySem.W.findIn K (.ref c_InvalidWord) "__class__" = some (some (.builtin "object.__class__"))) (hd_InvalidWord : PySem.W.hasDictIn K c_InvalidWord = true) (ic_InvalidWord : PySem.W.isClsIn K c_InvalidWord = true) (ob_InvalidWord : PySem.W.mroIn K c_InvalidWord (.type "object") = some true)
    (no_InvalidWord_part : PySem.W.findIn K (.ref c_InvalidWord) "part" = some none)
    (aC_NotReady : PySem.W.nsIn K mainGlobals "NotReady" = some (some (.ref c_NotReady))) (xL_NotReady : K.lookup c_NotReady = some (excClassObj nm_NotReady q_NotReady c_NotReady N_NotReady bs_NotReady [.ref cO, .type "ValueError", .type "Exception", .type "BaseException", .type "object"] true sn_NotReady sub_NotReady ab_NotReady col_NotReady dd_NotReady m0_NotReady m1_NotReady m2_NotReady m3_NotReady m5_NotReady "ValueError.__new__"))
    (iC_NotReady : PySem.W.findIn K (.ref c_NotReady) "__init__" = some (some (.ref g_NotReady))) (iT_NotReady : PySem.W.typeIn K (.ref g_NotReady) = some (.type "function")) (lC_NotReady : K.lookup g_NotReady = some ⟨oc_NotReady, od_NotReady, .func (PySem.W.fnOf "__init__" "NotReady.__init__" (defArgs s_NotReady_init) (defBody s_NotReady_init) (defScope s_NotReady_init) .none kV_NotReady dc_NotReady pm_NotReady an_NotReady cd_NotReady ct_NotReady), sl_NotReady⟩) (cC_NotReady : PySem.W.codeIn K cd_NotReady "NotReady.__init__" = true) (kC_NotReady : PySem.W.keepIn K (.ref g_NotReady) = true)
    (sa_NotReady : PySem.W.findIn K (.ref c_NotReady) "__setattr__" = some (some (.builtin "object.__setattr__"))) (eC_NotReady : PySem.W.subIn K (.ref c_NotReady) (.type "BaseException") = some true) (tC_NotReady : PySem.W.typeIn K (.ref c_NotReady) = some (.type "type")) (pC_NotReady : PySem.W.keepIn K (.ref c_NotReady) = true) (ga_NotReady : PySem.W.findIn K (.ref c_NotReady) "__getattribute__" = some (some (.builtin "BaseException.__getattribute__"))) (gg_NotReady : PySem.W.findIn K (.ref c_NotReady) "__getattr__" = some none) (cl_NotReady : PySem.W.findIn K (.ref c_NotReady) "__class__" = some (some (.builtin "object.__class__"))) (hd_NotReady : PySem.W.hasDictIn K c_NotReady = true) (ic_NotReady : PySem.W.isClsIn K c_NotReady = true) (ob_NotReady : PySem.W.mroIn K c_NotReady (.type "object") = some true)
    (no_NotReady_part : PySem.W.findIn K (.ref c_NotReady) "part" = some none)
    (aC_TooMany : PySem.W.nsIn K mainGlobals "TooMany" = some (some (.ref c_TooMany))) (xL_TooMany : K.lookup c_TooMany = some (excClassObj nm_TooMany q_TooMany c_TooMany N_TooMany bs_TooMany [.ref cO, .type "ValueError", .type "Exception", .type "BaseException", .type "object"] true sn_TooMany sub_TooMany ab_TooMany col_TooMany dd_TooMany m0_TooMany m1_TooMany m2_TooMany m3_TooMany m5_TooMany "ValueError.__new__"))
    (iC_TooMany : PySem.W.findIn K (.ref c_TooMany) "__init__" = some (some (.ref g_TooMany))) (iT_TooMany : PySem.W.typeIn K (.ref g_TooMany) = some (.type "function")) (lC_TooMany : K.lookup g_TooMany = some ⟨oc_TooMany, od_TooMany, .func (PySem.W.fnOf "__init__" "TooMany.__init__" (defArgs s_TooMany_init) (defBody s_TooMany_init) (defScope s_TooMany_init) .none kV_TooMany dc_TooMany pm_TooMany an_TooMany cd_TooMany ct_TooMany), sl_TooMany⟩) (cC_TooMany : PySem.W.codeIn K cd_TooMany "TooMany.__init__" = true) (kC_TooMany : PySem.W.keepIn K (.ref g_TooMany) = true)
    (sa_TooMany : PySem.W.findIn K (.ref c_TooMany) "__setattr__" = some (some (.builtin "object.__setattr__"))) (eC_TooMany : PySem.W.subIn K (.ref c_TooMany) (.type "BaseException") = some true) (tC_TooMany : PySem.W.typeIn K (.ref c_TooMany) = some (.type "type")) (pC_TooMany : PySem.W.keepIn K (.ref c_TooMany) = true) (ga_TooMany : PySem.W.findIn K (.ref c_TooMany) "__getattribute__" = some (some (.builtin "BaseException.__getattribute__"))) (gg_TooMany : PySem.W.findIn K (.ref c_TooMany) "__getattr__" = some none) (cl_TooMany : PySem.W.findIn K (.ref c_TooMany) "__class__" = some (some (.builtin "object.__class__"))) (hd_TooMany : PySem.W.hasDictIn K c_TooMany = true) (ic_TooMany : PySem.W.isClsIn K c_TooMany = true) (ob_TooMany : PySem.W.mroIn K c_TooMany (.type "object") = some true)
    (no_TooMany_part : PySem.W.findIn K (.ref c_TooMany) "part" = some none)
    (aC_InvalidAddress : PySem.W.nsIn K mainGlobals "InvalidAddress" = some (some (.ref c_InvalidAddress))) (xL_InvalidAddress : K.lookup c_InvalidAddress = some (excClassObj nm_InvalidAddress q_InvalidAddress c_InvalidAddress N_InvalidAddress bs_InvalidAddress [.ref cO, .type "ValueError", .type "Exception", .type "BaseException", .type "object"] true sn_InvalidAddress sub_InvalidAddress ab_InvalidAddress col_InvalidAddress dd_InvalidAddress m0_InvalidAddress m1_InvalidAddress m2_InvalidAddress m3_InvalidAddress m5_InvalidAddress "ValueError.__new__"))
    (iC_InvalidAddress : PySem.W.findIn K (.ref c_InvalidAddress) "__init__" = some (some (.ref g_InvalidAddress))) (iT_InvalidAddress : PySem.W.typeIn K (.ref g_InvalidAddress) = some (.type "function")) (lC_InvalidAddress : K.lookup g_InvalidAddress = some ⟨oc_InvalidAddress, od_InvalidAddress, .func (PySem.W.fnOf "__init__" "InvalidAddress.__init__" (defArgs s_InvalidAddress_init) (defBody s_InvalidAddress_init) (defScope s_InvalidAddress_init) .none kV_InvalidAddress dc_InvalidAddress pm_InvalidAddress an_InvalidAddress cd_InvalidAddress ct_InvalidAddress), sl_InvalidAddress⟩) (cC_InvalidAddress : PySem.W.codeIn K cd_InvalidAddress "InvalidAddress.__init__" = true) (kC_InvalidAddress : PySem.W.keepIn K (.ref g_InvalidAddress) = true)
    (sa_InvalidAddress : PySem.W.findIn K (.ref c_InvalidAddress) "__setattr__" = some (some (.builtin "object.__setattr__"))) (eC_InvalidAddress : PySem.W.subIn K (.ref c_InvalidAddress) (.type "BaseException") = some true) (tC_InvalidAddress : PySem.W.typeIn K (.ref c_InvalidAddress) = some (.type "type")) (pC_InvalidAddress : PySem.W.keepIn K (.ref c_InvalidAddress) = true) (ga_InvalidAddress : PySem.W.findIn K (.ref c_InvalidAddress) "__getattribute__" = some (some (.builtin "BaseException.__getattribute__"))) (gg_InvalidAddress : PySem.W.findIn K (.ref c_InvalidAddress) "__getattr__" = some none) (cl_InvalidAddress : PySem.W.findIn K (.ref c_InvalidAddress) "__class__" = some (some (.builtin "object.__class__"))) (hd_InvalidAddress : PySem.W.hasDictIn K c_InvalidAddress = true) (ic_InvalidAddress : PySem.W.isClsIn K c_InvalidAddress = true) (ob_InvalidAddress : PySem.W.mroIn K c_InvalidAddress (.type "object") = some true)
    (no_InvalidAddress_address : PySem.W.findIn K (.ref c_InvalidAddress) "address" = some none)
    (aC_Locked : PySem.W.nsIn K mainGlobals "Locked" = some (some (.ref c_Locked))) (xL_Locked : K.lookup c_Locked = some (excClassObj nm_Locked q_Locked c_Locked N_Locked bs_Locked [.ref cO, .type "ValueError", .type "Exception", .type "BaseException", .type "object"] true sn_Locked sub_Locked ab_Locked col_Locked dd_Locked m0_Locked m1_Locked m2_Locked m3_Locked m5_Locked "ValueError.__new__"))
    (iC_Locked : PySem.W.findIn K (.ref c_Locked) "__init__" = some (some (.ref g_Locked))) (iT_Locked : PySem.W.typeIn K (.ref g_Locked) = some (.type "function")) (lC_Locked : K.lookup g_Locked = some ⟨oc_Locked, od_Locked, .func (PySem.W.fnOf "__init__" "Locked.__init__" (defArgs s_Locked_init) (defBody s_Locked_init) (defScope s_Locked_init) .none kV_Locked dc_Locked pm_Locked an_Locked cd_Locked ct_Locked), sl_Locked⟩) (cC_Locked : PySem.W.codeIn K cd_Locked "Locked.__init__" = true) (kC_Locked : PySem.W.keepIn K (.ref g_Locked) = true)
    (sa_Locked : PySem.W.findIn K (.ref c_Locked) "__setattr__" = some (some (.builtin "object.__setattr__"))) (eC_Locked : PySem.W.subIn K (.ref c_Locked) (.type "BaseException") = some true) (tC_Locked : PySem.W.typeIn K (.ref c_Locked) = some (.type "type")) (pC_Locked : PySem.W.keepIn K (.ref c_Locked) = true) (ga_Locked : PySem.W.findIn K (.ref c_Locked) "__getattribute__" = some (some (.builtin "BaseException.__getattribute__"))) (gg_Locked : PySem.W.findIn K (.ref c_Locked) "__getattr__" = some none) (cl_Locked : PySem.W.findIn K (.ref c_Locked) "__class__" = some (some (.builtin "object.__class__"))) (hd_Locked : PySem.W.hasDictIn K c_Locked = true) (ic_Locked : PySem.W.isClsIn K c_Locked = true) (ob_Locked : PySem.W.mroIn K c_Locked (.type "object") = some true)
    (no_Locked_address : PySem.W.findIn K (.ref c_Locked) "address" = some none)
    (aC_Blank : PySem.W.nsIn K mainGlobals "Blank" = some (some (.ref c_Blank))) (xL_Blank : K.lookup c_Blank = some (excClassObj nm_Blank q_Blank c_Blank N_Blank bs_Blank [.ref cO, .type "ValueError", .type "Exception", .type "BaseException", .type "object"] true sn_Blank sub_Blank ab_Blank col_Blank dd_Blank m0_Blank m1_Blank m2_Blank m3_Blank m5_Blank "ValueError.__new__"))
    (iC_Blank : PySem.W.findIn K (.ref c_Blank) "__init__" = some (some (.ref g_Blank))) (iT_Blank : PySem.W.typeIn K (.ref g_Blank) = some (.type "function")) (lC_Blank : K.lookup g_Blank = some ⟨oc_Blank, od_Blank, .func (PySem.W.fnOf "__init__" "Blank.__init__" (defArgs s_Blank_init) (defBody s_Blank_init) (defScope s_Blank_init) .none kV_Blank dc_Blank pm_Blank an_Blank cd_Blank ct_Blank), sl_Blank⟩) (cC_Blank : PySem.W.codeIn K cd_Blank "Blank.__init__" = true) (kC_Blank : PySem.W.keepIn K (.ref g_Blank) = true)
    (sa_Blank : PySem.W.findIn K (.ref c_Blank) "__setattr__" = some (some (.builtin "object.__setattr__"))) (eC_Blank : PySem.W.subIn K (.ref c_Blank) (.type "BaseException") = some true) (tC_Blank : PySem.W.typeIn K (.ref c_Blank) = some (.type "type")) (pC_Blank : PySem.W.keepIn K (.ref c_Blank) = true) (ga_Blank : PySem.W.findIn K (.ref c_Blank) "__getattribute__" = some (some (.builtin "BaseException.__getattribute__"))) (gg_Blank : PySem.W.findIn K (.ref c_Blank) "__getattr__" = some none) (cl_Blank : PySem.W.findIn K (.ref c_Blank) "__class__" = some (some (.builtin "object.__class__"))) (hd_Blank : PySem.W.hasDictIn K c_Blank = true) (ic_Blank : PySem.W.isClsIn K c_Blank = true) (ob_Blank : PySem.W.mroIn K c_Blank (.type "object") = some true)
    (no_Blank_address : PySem.W.findIn K (.ref c_Blank) "address" = some none)
    (aC_StateClash : PySem.W.nsIn K mainGlobals "StateClash" = some (some (.ref c_StateClash))) (xL_StateClash : K.lookup c_StateClash = some (excClassObj nm_StateClash q_StateClash c_StateClash N_StateClash bs_StateClash [.ref cO, .type "ValueError", .type "Exception", .type "BaseException", .type "object"] true sn_StateClash sub_StateClash ab_StateClash col_StateClash dd_StateClash m0_StateClash m1_StateClash m2_StateClash m3_StateClash m5_StateClash "ValueError.__new__"))
    (iC_StateClash : PySem.W.findIn K (.ref c_StateClash) "__init__" = some (some (.ref g_StateClash))) (iT_StateClash : PySem.W.typeIn K (.ref g_StateClash) = some (.type "function")) (lC_StateClash : K.lookup g_StateClash = some ⟨oc_StateClash, od_StateClash, .func (PySem.W.fnOf "__init__" "StateClash.__init__" (defArgs s_StateClash_init) (defBody s_StateClash_init) (defScope s_StateClash_init) .none kV_StateClash dc_StateClash pm_StateClash an_StateClash cd_StateClash ct_StateClash), sl_StateClash⟩) (cC_StateClash : PySem.W.codeIn K cd_StateClash "StateClash.__init__" = true) (kC_StateClash : PySem.W.keepIn K (.ref g_StateClash) = true)
    (sa_StateClash : PySem.W.findIn K (.ref c_StateClash) "__setattr__" = some (some (.builtin "object.__setattr__"))) (eC_StateClash : PySem.W.subIn K (.ref c_StateClash) (.type "BaseException") = some true) (tC_StateClash : PySem.W.typeIn K (.ref c_StateClash) = some (.type "type")) (pC_StateClash : PySem.W.keepIn K (.ref c_StateClash) = true) (ga_StateClash : PySem.W.findIn K (.ref c_StateClash) "__getattribute__" = some (some (.builtin "BaseException.__getattribute__"))) (gg_StateClash : PySem.W.findIn K (.ref c_StateClash) "__getattr__" = some none) (cl_StateClash : PySem.W.findIn K (.ref c_StateClash) "__class__" = some (some (.builtin "object.__class__"))) (hd_StateClash : PySem.W.hasDictIn K c_StateClash = true) (ic_StateClash : PySem.W.isClsIn K c_StateClash = true) (ob_StateClash : PySem.W.mroIn K c_StateClash (.type "object") = some true)
    (no_StateClash_name : PySem.W.findIn K (.ref c_StateClash) "name" = some none)
    (aC_NoCondition : PySem.W.nsIn K mainGlobals "NoCondition" = some (some (.ref c_NoCondition))) (xL_NoCondition : K.lookup c_NoCondition = some (excClassObj nm_NoCondition q_NoCondition c_NoCondition N_NoCondition bs_NoCondition [.ref cO, .type "ValueError", .type "Exception", .type "BaseException", .type "object"] true sn_NoCondition sub_NoCondition ab_NoCondition col_NoCondition dd_NoCondition m0_NoCondition m1_NoCondition m2_NoCondition m3_NoCondition m5_NoCondition "ValueError.__new__"))
    (iC_NoCondition : PySem.W.findIn K (.ref c_NoCondition) "__init__" = some (some (.ref g_NoCondition))) (iT_NoCondition : PySem.W.typeIn K (.ref g_NoCondition) = some (.type "function")) (lC_NoCondition : K.lookup g_NoCondition = some ⟨oc_NoCondition, od_NoCondition, .func (PySem.W.fnOf "__init__" "NoCondition.__init__" (defArgs s_NoCondition_init) (defBody s_NoCondition_init) (defScope s_NoCondition_init) .none kV_NoCondition dc_NoCondition pm_NoCondition an_NoCondition cd_NoCondition ct_NoCondition), sl_NoCondition⟩) (cC_NoCondition : PySem.W.codeIn K cd_NoCondition "NoCondition.__init__" = true) (kC_NoCondition : PySem.W.keepIn K (.ref g_NoCondition) = true)
    (sa_NoCondition : PySem.W.findIn K (.ref c_NoCondition) "__setattr__" = some (some (.builtin "object.__setattr__"))) (eC_NoCondition : PySem.W.subIn K (.ref c_NoCondition) (.type "BaseException") = some true) (tC_NoCondition : PySem.W.typeIn K (.ref c_NoCondition) = some (.type "type")) (pC_NoCondition : PySem.W.keepIn K (.ref c_NoCondition) = true) (ga_NoCondition : PySem.W.findIn K (.ref c_NoCondition) "__getattribute__" = some (some (.builtin "BaseException.__getattribute__"))) (gg_NoCondition : PySem.W.findIn K (.ref c_NoCondition) "__getattr__" = some none) (cl_NoCondition : PySem.W.findIn K (.ref c_NoCondition) "__class__" = some (some (.builtin "object.__class__"))) (hd_NoCondition : PySem.W.hasDictIn K c_NoCondition = true) (ic_NoCondition : PySem.W.isClsIn K c_NoCondition = true) (ob_NoCondition : PySem.W.mroIn K c_NoCondition (.type "object") = some true)
    (no_NoCondition_name : PySem.W.findIn K (.ref c_NoCondition) "name" = some none)
    (aC_NoField : PySem.W.nsIn K mainGlobals "NoField" = some (some (.ref c_NoField))) (xL_NoField : K.lookup c_NoField = some (excClassObj nm_NoField q_NoField c_NoField N_NoField bs_NoField [.ref cO, .type "ValueError", .type "Exception", .type "BaseException", .type "object"] true sn_NoField sub_NoField ab_NoField col_NoField dd_NoField m0_NoField m1_NoField m2_NoField m3_NoField m5_NoField "ValueError.__new__"))
    (iC_NoField : PySem.W.findIn K (.ref c_NoField) "__init__" = some (some (.ref g_NoField))) (iT_NoField : PySem.W.typeIn K (.ref g_NoField) = some (.type "function")) (lC_NoField : K.lookup g_NoField = some ⟨oc_NoField, od_NoField, .func (PySem.W.fnOf "__init__" "NoField.__init__" (defArgs s_NoField_init) (defBody s_NoField_init) (defScope s_NoField_init) .none kV_NoField dc_NoField pm_NoField an_NoField cd_NoField ct_NoField), sl_NoField⟩) (cC_NoField : PySem.W.codeIn K cd_NoField "NoField.__init__" = true) (kC_NoField : PySem.W.keepIn K (.ref g_NoField) = true)
    (sa_NoField : PySem.W.findIn K (.ref c_NoField) "__setattr__" = some (some (.builtin "object.__setattr__"))) (eC_NoField : PySem.W.subIn K (.ref c_NoField) (.type "BaseException") = some true) (tC_NoField : PySem.W.typeIn K (.ref c_NoField) = some (.type "type")) (pC_NoField : PySem.W.keepIn K (.ref c_NoField) = true) (ga_NoField : PySem.W.findIn K (.ref c_NoField) "__getattribute__" = some (some (.builtin "BaseException.__getattribute__"))) (gg_NoField : PySem.W.findIn K (.ref c_NoField) "__getattr__" = some none) (cl_NoField : PySem.W.findIn K (.ref c_NoField) "__class__" = some (some (.builtin "object.__class__"))) (hd_NoField : PySem.W.hasDictIn K c_NoField = true) (ic_NoField : PySem.W.isClsIn K c_NoField = true) (ob_NoField : PySem.W.mroIn K c_NoField (.type "object") = some true)
    (no_NoField_name : PySem.W.findIn K (.ref c_NoField) "name" = some none)
    (aC_NoKind : PySem.W.nsIn K mainGlobals "NoKind" = some (some (.ref c_NoKind))) (xL_NoKind : K.lookup c_NoKind = some (excClassObj nm_NoKind q_NoKind c_NoKind N_NoKind bs_NoKind [.ref cO, .type "ValueError", .type "Exception", .type "BaseException", .type "object"] true sn_NoKind sub_NoKind ab_NoKind col_NoKind dd_NoKind m0_NoKind m1_NoKind m2_NoKind m3_NoKind m5_NoKind "ValueError.__new__"))
    (iC_NoKind : PySem.W.findIn K (.ref c_NoKind) "__init__" = some (some (.ref g_NoKind))) (iT_NoKind : PySem.W.typeIn K (.ref g_NoKind) = some (.type "function")) (lC_NoKind : K.lookup g_NoKind = some ⟨oc_NoKind, od_NoKind, .func (PySem.W.fnOf "__init__" "NoKind.__init__" (defArgs s_NoKind_init) (defBody s_NoKind_init) (defScope s_NoKind_init) .none kV_NoKind dc_NoKind pm_NoKind an_NoKind cd_NoKind ct_NoKind), sl_NoKind⟩) (cC_NoKind : PySem.W.codeIn K cd_NoKind "NoKind.__init__" = true) (kC_NoKind : PySem.W.keepIn K (.ref g_NoKind) = true)
    (sa_NoKind : PySem.W.findIn K (.ref c_NoKind) "__setattr__" = some (some (.builtin "object.__setattr__"))) (eC_NoKind : PySem.W.subIn K (.ref c_NoKind) (.type "BaseException") = some true) (tC_NoKind : PySem.W.typeIn K (.ref c_NoKind) = some (.type "type")) (pC_NoKind : PySem.W.keepIn K (.ref c_NoKind) = true) (ga_NoKind : PySem.W.findIn K (.ref c_NoKind) "__getattribute__" = some (some (.builtin "BaseException.__getattribute__"))) (gg_NoKind : PySem.W.findIn K (.ref c_NoKind) "__getattr__" = some none) (cl_NoKind : PySem.W.findIn K (.ref c_NoKind) "__class__" = some (some (.builtin "object.__class__"))) (hd_NoKind : PySem.W.hasDictIn K c_NoKind = true) (ic_NoKind : PySem.W.isClsIn K c_NoKind = true) (ob_NoKind : PySem.W.mroIn K c_NoKind (.type "object") = some true)
    (no_NoKind_name : PySem.W.findIn K (.ref c_NoKind) "name" = some none)
    (aC_NoState : PySem.W.nsIn K mainGlobals "NoState" = some (some (.ref c_NoState))) (xL_NoState : K.lookup c_NoState = some (excClassObj nm_NoState q_NoState c_NoState N_NoState bs_NoState [.ref cO, .type "ValueError", .type "Exception", .type "BaseException", .type "object"] true sn_NoState sub_NoState ab_NoState col_NoState dd_NoState m0_NoState m1_NoState m2_NoState m3_NoState m5_NoState "ValueError.__new__"))
    (iC_NoState : PySem.W.findIn K (.ref c_NoState) "__init__" = some (some (.ref g_NoState))) (iT_NoState : PySem.W.typeIn K (.ref g_NoState) = some (.type "function")) (lC_NoState : K.lookup g_NoState = some ⟨oc_NoState, od_NoState, .func (PySem.W.fnOf "__init__" "NoState.__init__" (defArgs s_NoState_init) (defBody s_NoState_init) (defScope s_NoState_init) .none kV_NoState dc_NoState pm_NoState an_NoState cd_NoState ct_NoState), sl_NoState⟩) (cC_NoState : PySem.W.codeIn K cd_NoState "NoState.__init__" = true) (kC_NoState : PySem.W.keepIn K (.ref g_NoState) = true)
    (sa_NoState : PySem.W.findIn K (.ref c_NoState) "__setattr__" = some (some (.builtin "object.__setattr__"))) (eC_NoState : PySem.W.subIn K (.ref c_NoState) (.type "BaseException") = some true) (tC_NoState : PySem.W.typeIn K (.ref c_NoState) = some (.type "type")) (pC_NoState : PySem.W.keepIn K (.ref c_NoState) = true) (ga_NoState : PySem.W.findIn K (.ref c_NoState) "__getattribute__" = some (some (.builtin "BaseException.__getattribute__"))) (gg_NoState : PySem.W.findIn K (.ref c_NoState) "__getattr__" = some none) (cl_NoState : PySem.W.findIn K (.ref c_NoState) "__class__" = some (some (.builtin "object.__class__"))) (hd_NoState : PySem.W.hasDictIn K c_NoState = true) (ic_NoState : PySem.W.isClsIn K c_NoState = true) (ob_NoState : PySem.W.mroIn K c_NoState (.type "object") = some true)
    (no_NoState_name : PySem.W.findIn K (.ref c_NoState) "name" = some none)
    (aC_Taken : PySem.W.nsIn K mainGlobals "Taken" = some (some (.ref c_Taken))) (xL_Taken : K.lookup c_Taken = some (excClassObj nm_Taken q_Taken c_Taken N_Taken bs_Taken [.ref cO, .type "ValueError", .type "Exception", .type "BaseException", .type "object"] true sn_Taken sub_Taken ab_Taken col_Taken dd_Taken m0_Taken m1_Taken m2_Taken m3_Taken m5_Taken "ValueError.__new__"))
    (iC_Taken : PySem.W.findIn K (.ref c_Taken) "__init__" = some (some (.ref g_Taken))) (iT_Taken : PySem.W.typeIn K (.ref g_Taken) = some (.type "function")) (lC_Taken : K.lookup g_Taken = some ⟨oc_Taken, od_Taken, .func (PySem.W.fnOf "__init__" "Taken.__init__" (defArgs s_Taken_init) (defBody s_Taken_init) (defScope s_Taken_init) .none kV_Taken dc_Taken pm_Taken an_Taken cd_Taken ct_Taken), sl_Taken⟩) (cC_Taken : PySem.W.codeIn K cd_Taken "Taken.__init__" = true) (kC_Taken : PySem.W.keepIn K (.ref g_Taken) = true)
    (sa_Taken : PySem.W.findIn K (.ref c_Taken) "__setattr__" = some (some (.builtin "object.__setattr__"))) (eC_Taken : PySem.W.subIn K (.ref c_Taken) (.type "BaseException") = some true) (tC_Taken : PySem.W.typeIn K (.ref c_Taken) = some (.type "type")) (pC_Taken : PySem.W.keepIn K (.ref c_Taken) = true) (ga_Taken : PySem.W.findIn K (.ref c_Taken) "__getattribute__" = some (some (.builtin "BaseException.__getattribute__"))) (gg_Taken : PySem.W.findIn K (.ref c_Taken) "__getattr__" = some none) (cl_Taken : PySem.W.findIn K (.ref c_Taken) "__class__" = some (some (.builtin "object.__class__"))) (hd_Taken : PySem.W.hasDictIn K c_Taken = true) (ic_Taken : PySem.W.isClsIn K c_Taken = true) (ob_Taken : PySem.W.mroIn K c_Taken (.type "object") = some true)
    (no_Taken_name : PySem.W.findIn K (.ref c_Taken) "name" = some none)
    (aC_NotPossible : PySem.W.nsIn K mainGlobals "NotPossible" = some (some (.ref c_NotPossible))) (xL_NotPossible : K.lookup c_NotPossible = some (excClassObj nm_NotPossible q_NotPossible c_NotPossible N_NotPossible bs_NotPossible [.ref cO, .type "ValueError", .type "Exception", .type "BaseException", .type "object"] true sn_NotPossible sub_NotPossible ab_NotPossible col_NotPossible dd_NotPossible m0_NotPossible m1_NotPossible m2_NotPossible m3_NotPossible m5_NotPossible "ValueError.__new__"))
    (iC_NotPossible : PySem.W.findIn K (.ref c_NotPossible) "__init__" = some (some (.ref g_NotPossible))) (iT_NotPossible : PySem.W.typeIn K (.ref g_NotPossible) = some (.type "function")) (lC_NotPossible : K.lookup g_NotPossible = some ⟨oc_NotPossible, od_NotPossible, .func (PySem.W.fnOf "__init__" "NotPossible.__init__" (defArgs s_NotPossible_init) (defBody s_NotPossible_init) (defScope s_NotPossible_init) .none kV_NotPossible dc_NotPossible pm_NotPossible an_NotPossible cd_NotPossible ct_NotPossible), sl_NotPossible⟩) (cC_NotPossible : PySem.W.codeIn K cd_NotPossible "NotPossible.__init__" = true) (kC_NotPossible : PySem.W.keepIn K (.ref g_NotPossible) = true)
    (sa_NotPossible : PySem.W.findIn K (.ref c_NotPossible) "__setattr__" = some (some (.builtin "object.__setattr__"))) (eC_NotPossible : PySem.W.subIn K (.ref c_NotPossible) (.type "BaseException") = some true) (tC_NotPossible : PySem.W.typeIn K (.ref c_NotPossible) = some (.type "type")) (pC_NotPossible : PySem.W.keepIn K (.ref c_NotPossible) = true) (ga_NotPossible : PySem.W.findIn K (.ref c_NotPossible) "__getattribute__" = some (some (.builtin "BaseException.__getattribute__"))) (gg_NotPossible : PySem.W.findIn K (.ref c_NotPossible) "__getattr__" = some none) (cl_NotPossible : PySem.W.findIn K (.ref c_NotPossible) "__class__" = some (some (.builtin "object.__class__"))) (hd_NotPossible : PySem.W.hasDictIn K c_NotPossible = true) (ic_NotPossible : PySem.W.isClsIn K c_NotPossible = true) (ob_NotPossible : PySem.W.mroIn K c_NotPossible (.type "object") = some true)
    (no_NotPossible_row : PySem.W.findIn K (.ref c_NotPossible) "row" = some none)
    (aC_NoCase : PySem.W.nsIn K mainGlobals "NoCase" = some (some (.ref c_NoCase))) (xL_NoCase : K.lookup c_NoCase = some (excClassObj nm_NoCase q_NoCase c_NoCase N_NoCase bs_NoCase [.ref cO, .type "ValueError", .type "Exception", .type "BaseException", .type "object"] true sn_NoCase sub_NoCase ab_NoCase col_NoCase dd_NoCase m0_NoCase m1_NoCase m2_NoCase m3_NoCase m5_NoCase "ValueError.__new__"))
    (iC_NoCase : PySem.W.findIn K (.ref c_NoCase) "__init__" = some (some (.ref g_NoCase))) (iT_NoCase : PySem.W.typeIn K (.ref g_NoCase) = some (.type "function")) (lC_NoCase : K.lookup g_NoCase = some ⟨oc_NoCase, od_NoCase, .func (PySem.W.fnOf "__init__" "NoCase.__init__" (defArgs s_NoCase_init) (defBody s_NoCase_init) (defScope s_NoCase_init) .none kV_NoCase dc_NoCase pm_NoCase an_NoCase cd_NoCase ct_NoCase), sl_NoCase⟩) (cC_NoCase : PySem.W.codeIn K cd_NoCase "NoCase.__init__" = true) (kC_NoCase : PySem.W.keepIn K (.ref g_NoCase) = true)
    (sa_NoCase : PySem.W.findIn K (.ref c_NoCase) "__setattr__" = some (some (.builtin "object.__setattr__"))) (eC_NoCase : PySem.W.subIn K (.ref c_NoCase) (.type "BaseException") = some true) (tC_NoCase : PySem.W.typeIn K (.ref c_NoCase) = some (.type "type")) (pC_NoCase : PySem.W.keepIn K (.ref c_NoCase) = true) (ga_NoCase : PySem.W.findIn K (.ref c_NoCase) "__getattribute__" = some (some (.builtin "BaseException.__getattribute__"))) (gg_NoCase : PySem.W.findIn K (.ref c_NoCase) "__getattr__" = some none) (cl_NoCase : PySem.W.findIn K (.ref c_NoCase) "__class__" = some (some (.builtin "object.__class__"))) (hd_NoCase : PySem.W.hasDictIn K c_NoCase = true) (ic_NoCase : PySem.W.isClsIn K c_NoCase = true) (ob_NoCase : PySem.W.mroIn K c_NoCase (.type "object") = some true)
    (no_NoCase_case : PySem.W.findIn K (.ref c_NoCase) "case" = some none)
    (aC_WrongCount : PySem.W.nsIn K mainGlobals "WrongCount" = some (some (.ref c_WrongCount))) (xL_WrongCount : K.lookup c_WrongCount = some (excClassObj nm_WrongCount q_WrongCount c_WrongCount N_WrongCount bs_WrongCount [.ref cO, .type "ValueError", .type "Exception", .type "BaseException", .type "object"] true sn_WrongCount sub_WrongCount ab_WrongCount col_WrongCount dd_WrongCount m0_WrongCount m1_WrongCount m2_WrongCount m3_WrongCount m5_WrongCount "ValueError.__new__"))
    (iC_WrongCount : PySem.W.findIn K (.ref c_WrongCount) "__init__" = some (some (.ref g_WrongCount))) (iT_WrongCount : PySem.W.typeIn K (.ref g_WrongCount) = some (.type "function")) (lC_WrongCount : K.lookup g_WrongCount = some ⟨oc_WrongCount, od_WrongCount, .func (PySem.W.fnOf "__init__" "WrongCount.__init__" (defArgs s_WrongCount_init) (defBody s_WrongCount_init) (defScope s_WrongCount_init) .none kV_WrongCount dc_WrongCount pm_WrongCount an_WrongCount cd_WrongCount ct_WrongCount), sl_WrongCount⟩) (cC_WrongCount : PySem.W.codeIn K cd_WrongCount "WrongCount.__init__" = true) (kC_WrongCount : PySem.W.keepIn K (.ref g_WrongCount) = true)
    (sa_WrongCount : PySem.W.findIn K (.ref c_WrongCount) "__setattr__" = some (some (.builtin "object.__setattr__"))) (eC_WrongCount : PySem.W.subIn K (.ref c_WrongCount) (.type "BaseException") = some true) (tC_WrongCount : PySem.W.typeIn K (.ref c_WrongCount) = some (.type "type")) (pC_WrongCount : PySem.W.keepIn K (.ref c_WrongCount) = true) (ga_WrongCount : PySem.W.findIn K (.ref c_WrongCount) "__getattribute__" = some (some (.builtin "BaseException.__getattribute__"))) (gg_WrongCount : PySem.W.findIn K (.ref c_WrongCount) "__getattr__" = some none) (cl_WrongCount : PySem.W.findIn K (.ref c_WrongCount) "__class__" = some (some (.builtin "object.__class__"))) (hd_WrongCount : PySem.W.hasDictIn K c_WrongCount = true) (ic_WrongCount : PySem.W.isClsIn K c_WrongCount = true) (ob_WrongCount : PySem.W.mroIn K c_WrongCount (.type "object") = some true)
    (no_WrongCount_wanted : PySem.W.findIn K (.ref c_WrongCount) "wanted" = some none)
    (aC_TooLarge : PySem.W.nsIn K mainGlobals "TooLarge" = some (some (.ref c_TooLarge))) (xL_TooLarge : K.lookup c_TooLarge = some (excClassObj nm_TooLarge q_TooLarge c_TooLarge N_TooLarge bs_TooLarge [.ref cO, .type "ValueError", .type "Exception", .type "BaseException", .type "object"] true sn_TooLarge sub_TooLarge ab_TooLarge col_TooLarge dd_TooLarge m0_TooLarge m1_TooLarge m2_TooLarge m3_TooLarge m5_TooLarge "ValueError.__new__"))
    (iC_TooLarge : PySem.W.findIn K (.ref c_TooLarge) "__init__" = some (some (.ref g_TooLarge))) (iT_TooLarge : PySem.W.typeIn K (.ref g_TooLarge) = some (.type "function")) (lC_TooLarge : K.lookup g_TooLarge = some ⟨oc_TooLarge, od_TooLarge, .func (PySem.W.fnOf "__init__" "TooLarge.__init__" (defArgs s_TooLarge_init) (defBody s_TooLarge_init) (defScope s_TooLarge_init) .none kV_TooLarge dc_TooLarge pm_TooLarge an_TooLarge cd_TooLarge ct_TooLarge), sl_TooLarge⟩) (cC_TooLarge : PySem.W.codeIn K cd_TooLarge "TooLarge.__init__" = true) (kC_TooLarge : PySem.W.keepIn K (.ref g_TooLarge) = true)
    (sa_TooLarge : PySem.W.findIn K (.ref c_TooLarge) "__setattr__" = some (some (.builtin "object.__setattr__"))) (eC_TooLarge : PySem.W.subIn K (.ref c_TooLarge) (.type "BaseException") = some true) (tC_TooLarge : PySem.W.typeIn K (.ref c_TooLarge) = some (.type "type")) (pC_TooLarge : PySem.W.keepIn K (.ref c_TooLarge) = true) (ga_TooLarge : PySem.W.findIn K (.ref c_TooLarge) "__getattribute__" = some (some (.builtin "BaseException.__getattribute__"))) (gg_TooLarge : PySem.W.findIn K (.ref c_TooLarge) "__getattr__" = some none) (cl_TooLarge : PySem.W.findIn K (.ref c_TooLarge) "__class__" = some (some (.builtin "object.__class__"))) (hd_TooLarge : PySem.W.hasDictIn K c_TooLarge = true) (ic_TooLarge : PySem.W.isClsIn K c_TooLarge = true) (ob_TooLarge : PySem.W.mroIn K c_TooLarge (.type "object") = some true)
    (no_TooLarge_limit : PySem.W.findIn K (.ref c_TooLarge) "limit" = some none)
    (aC_InvalidText : PySem.W.nsIn K mainGlobals "InvalidText" = some (some (.ref c_InvalidText))) (xL_InvalidText : K.lookup c_InvalidText = some (excClassObj nm_InvalidText q_InvalidText c_InvalidText N_InvalidText bs_InvalidText [.ref cO, .type "ValueError", .type "Exception", .type "BaseException", .type "object"] true sn_InvalidText sub_InvalidText ab_InvalidText col_InvalidText dd_InvalidText m0_InvalidText m1_InvalidText m2_InvalidText m3_InvalidText m5_InvalidText "ValueError.__new__"))
    (iC_InvalidText : PySem.W.findIn K (.ref c_InvalidText) "__init__" = some (some (.ref g_InvalidText))) (iT_InvalidText : PySem.W.typeIn K (.ref g_InvalidText) = some (.type "function")) (lC_InvalidText : K.lookup g_InvalidText = some ⟨oc_InvalidText, od_InvalidText, .func (PySem.W.fnOf "__init__" "InvalidText.__init__" (defArgs s_InvalidText_init) (defBody s_InvalidText_init) (defScope s_InvalidText_init) .none kV_InvalidText dc_InvalidText pm_InvalidText an_InvalidText cd_InvalidText ct_InvalidText), sl_InvalidText⟩) (cC_InvalidText : PySem.W.codeIn K cd_InvalidText "InvalidText.__init__" = true) (kC_InvalidText : PySem.W.keepIn K (.ref g_InvalidText) = true)
    (sa_InvalidText : PySem.W.findIn K (.ref c_InvalidText) "__setattr__" = some (some (.builtin "object.__setattr__"))) (eC_InvalidText : PySem.W.subIn K (.ref c_InvalidText) (.type "BaseException") = some true) (tC_InvalidText : PySem.W.typeIn K (.ref c_InvalidText) = some (.type "type")) (pC_InvalidText : PySem.W.keepIn K (.ref c_InvalidText) = true) (ga_InvalidText : PySem.W.findIn K (.ref c_InvalidText) "__getattribute__" = some (some (.builtin "BaseException.__getattribute__"))) (gg_InvalidText : PySem.W.findIn K (.ref c_InvalidText) "__getattr__" = some none) (cl_InvalidText : PySem.W.findIn K (.ref c_InvalidText) "__class__" = some (some (.builtin "object.__class__"))) (hd_InvalidText : PySem.W.hasDictIn K c_InvalidText = true) (ic_InvalidText : PySem.W.isClsIn K c_InvalidText = true) (ob_InvalidText : PySem.W.mroIn K c_InvalidText (.type "object") = some true)
    (no_InvalidText_line : PySem.W.findIn K (.ref c_InvalidText) "line" = some none)
    (no_InvalidText_word : PySem.W.findIn K (.ref c_InvalidText) "word" = some none)
    (aC_FieldClash : PySem.W.nsIn K mainGlobals "FieldClash" = some (some (.ref c_FieldClash))) (xL_FieldClash : K.lookup c_FieldClash = some (excClassObj nm_FieldClash q_FieldClash c_FieldClash N_FieldClash bs_FieldClash [.ref cO, .type "ValueError", .type "Exception", .type "BaseException", .type "object"] true sn_FieldClash sub_FieldClash ab_FieldClash col_FieldClash dd_FieldClash m0_FieldClash m1_FieldClash m2_FieldClash m3_FieldClash m5_FieldClash "ValueError.__new__"))
    (iC_FieldClash : PySem.W.findIn K (.ref c_FieldClash) "__init__" = some (some (.ref g_FieldClash))) (iT_FieldClash : PySem.W.typeIn K (.ref g_FieldClash) = some (.type "function")) (lC_FieldClash : K.lookup g_FieldClash = some ⟨oc_FieldClash, od_FieldClash, .func (PySem.W.fnOf "__init__" "FieldClash.__init__" (defArgs s_FieldClash_init) (defBody s_FieldClash_init) (defScope s_FieldClash_init) .none kV_FieldClash dc_FieldClash pm_FieldClash an_FieldClash cd_FieldClash ct_FieldClash), sl_FieldClash⟩) (cC_FieldClash : PySem.W.codeIn K cd_FieldClash "FieldClash.__init__" = true) (kC_FieldClash : PySem.W.keepIn K (.ref g_FieldClash) = true)
    (sa_FieldClash : PySem.W.findIn K (.ref c_FieldClash) "__setattr__" = some (some (.builtin "object.__setattr__"))) (eC_FieldClash : PySem.W.subIn K (.ref c_FieldClash) (.type "BaseException") = some true) (tC_FieldClash : PySem.W.typeIn K (.ref c_FieldClash) = some (.type "type")) (pC_FieldClash : PySem.W.keepIn K (.ref c_FieldClash) = true) (ga_FieldClash : PySem.W.findIn K (.ref c_FieldClash) "__getattribute__" = some (some (.builtin "BaseException.__getattribute__"))) (gg_FieldClash : PySem.W.findIn K (.ref c_FieldClash) "__getattr__" = some none) (cl_FieldClash : PySem.W.findIn K (.ref c_FieldClash) "__class__" = some (some (.builtin "object.__class__"))) (hd_FieldClash : PySem.W.hasDictIn K c_FieldClash = true) (ic_FieldClash : PySem.W.isClsIn K c_FieldClash = true) (ob_FieldClash : PySem.W.mroIn K c_FieldClash (.type "object") = some true)
    (no_FieldClash_field : PySem.W.findIn K (.ref c_FieldClash) "field" = some none)
    (no_FieldClash_one : PySem.W.findIn K (.ref c_FieldClash) "one" = some none)
    (no_FieldClash_other : PySem.W.findIn K (.ref c_FieldClash) "other" = some none)
    (aC_Clash : PySem.W.nsIn K mainGlobals "Clash" = some (some (.ref c_Clash))) (xL_Clash : K.lookup c_Clash = some (excClassObj nm_Clash q_Clash c_Clash N_Clash bs_Clash [.ref cO, .type "ValueError", .type "Exception", .type "BaseException", .type "object"] true sn_Clash sub_Clash ab_Clash col_Clash dd_Clash m0_Clash m1_Clash m2_Clash m3_Clash m5_Clash "ValueError.__new__"))
    (iC_Clash : PySem.W.findIn K (.ref c_Clash) "__init__" = some (some (.ref g_Clash))) (iT_Clash : PySem.W.typeIn K (.ref g_Clash) = some (.type "function")) (lC_Clash : K.lookup g_Clash = some ⟨oc_Clash, od_Clash, .func (PySem.W.fnOf "__init__" "Clash.__init__" (defArgs s_Clash_init) (defBody s_Clash_init) (defScope s_Clash_init) .none kV_Clash dc_Clash pm_Clash an_Clash cd_Clash ct_Clash), sl_Clash⟩) (cC_Clash : PySem.W.codeIn K cd_Clash "Clash.__init__" = true) (kC_Clash : PySem.W.keepIn K (.ref g_Clash) = true)
    (sa_Clash : PySem.W.findIn K (.ref c_Clash) "__setattr__" = some (some (.builtin "object.__setattr__"))) (eC_Clash : PySem.W.subIn K (.ref c_Clash) (.type "BaseException") = some true) (tC_Clash : PySem.W.typeIn K (.ref c_Clash) = some (.type "type")) (pC_Clash : PySem.W.keepIn K (.ref c_Clash) = true) (ga_Clash : PySem.W.findIn K (.ref c_Clash) "__getattribute__" = some (some (.builtin "BaseException.__getattribute__"))) (gg_Clash : PySem.W.findIn K (.ref c_Clash) "__getattr__" = some none) (cl_Clash : PySem.W.findIn K (.ref c_Clash) "__class__" = some (some (.builtin "object.__class__"))) (hd_Clash : PySem.W.hasDictIn K c_Clash = true) (ic_Clash : PySem.W.isClsIn K c_Clash = true) (ob_Clash : PySem.W.mroIn K c_Clash (.type "object") = some true)
    (no_Clash_lesser : PySem.W.findIn K (.ref c_Clash) "lesser" = some none)
    (no_Clash_name : PySem.W.findIn K (.ref c_Clash) "name" = some none)
    (aC_NoStates : PySem.W.nsIn K mainGlobals "NoStates" = some (some (.ref c_NoStates))) (xL_NoStates : K.lookup c_NoStates = some (excClassObj nm_NoStates q_NoStates c_NoStates N_NoStates bs_NoStates [.ref cO, .type "ValueError", .type "Exception", .type "BaseException", .type "object"] true sn_NoStates sub_NoStates ab_NoStates col_NoStates dd_NoStates m0_NoStates m1_NoStates m2_NoStates m3_NoStates m5_NoStates "ValueError.__new__"))
    (iC_NoStates : PySem.W.findIn K (.ref c_NoStates) "__init__" = some (some (.ref g_NoStates))) (iT_NoStates : PySem.W.typeIn K (.ref g_NoStates) = some (.type "function")) (lC_NoStates : K.lookup g_NoStates = some ⟨oc_NoStates, od_NoStates, .func (PySem.W.fnOf "__init__" "NoStates.__init__" (defArgs s_NoStates_init) (defBody s_NoStates_init) (defScope s_NoStates_init) .none kV_NoStates dc_NoStates pm_NoStates an_NoStates cd_NoStates ct_NoStates), sl_NoStates⟩) (cC_NoStates : PySem.W.codeIn K cd_NoStates "NoStates.__init__" = true) (kC_NoStates : PySem.W.keepIn K (.ref g_NoStates) = true)
    (sa_NoStates : PySem.W.findIn K (.ref c_NoStates) "__setattr__" = some (some (.builtin "object.__setattr__"))) (eC_NoStates : PySem.W.subIn K (.ref c_NoStates) (.type "BaseException") = some true) (tC_NoStates : PySem.W.typeIn K (.ref c_NoStates) = some (.type "type")) (pC_NoStates : PySem.W.keepIn K (.ref c_NoStates) = true) (ga_NoStates : PySem.W.findIn K (.ref c_NoStates) "__getattribute__" = some (some (.builtin "BaseException.__getattribute__"))) (gg_NoStates : PySem.W.findIn K (.ref c_NoStates) "__getattr__" = some none) (cl_NoStates : PySem.W.findIn K (.ref c_NoStates) "__class__" = some (some (.builtin "object.__class__"))) (hd_NoStates : PySem.W.hasDictIn K c_NoStates = true) (ic_NoStates : PySem.W.isClsIn K c_NoStates = true) (ob_NoStates : PySem.W.mroIn K c_NoStates (.type "object") = some true)
    (aC_NoEntries : PySem.W.nsIn K mainGlobals "NoEntries" = some (some (.ref c_NoEntries))) (xL_NoEntries : K.lookup c_NoEntries = some (excClassObj nm_NoEntries q_NoEntries c_NoEntries N_NoEntries bs_NoEntries [.ref cO, .type "ValueError", .type "Exception", .type "BaseException", .type "object"] true sn_NoEntries sub_NoEntries ab_NoEntries col_NoEntries dd_NoEntries m0_NoEntries m1_NoEntries m2_NoEntries m3_NoEntries m5_NoEntries "ValueError.__new__"))
    (iC_NoEntries : PySem.W.findIn K (.ref c_NoEntries) "__init__" = some (some (.ref g_NoEntries))) (iT_NoEntries : PySem.W.typeIn K (.ref g_NoEntries) = some (.type "function")) (lC_NoEntries : K.lookup g_NoEntries = some ⟨oc_NoEntries, od_NoEntries, .func (PySem.W.fnOf "__init__" "NoEntries.__init__" (defArgs s_NoEntries_init) (defBody s_NoEntries_init) (defScope s_NoEntries_init) .none kV_NoEntries dc_NoEntries pm_NoEntries an_NoEntries cd_NoEntries ct_NoEntries), sl_NoEntries⟩) (cC_NoEntries : PySem.W.codeIn K cd_NoEntries "NoEntries.__init__" = true) (kC_NoEntries : PySem.W.keepIn K (.ref g_NoEntries) = true)
    (sa_NoEntries : PySem.W.findIn K (.ref c_NoEntries) "__setattr__" = some (some (.builtin "object.__setattr__"))) (eC_NoEntries : PySem.W.subIn K (.ref c_NoEntries) (.type "BaseException") = some true) (tC_NoEntries : PySem.W.typeIn K (.ref c_NoEntries) = some (.type "type")) (pC_NoEntries : PySem.W.keepIn K (.ref c_NoEntries) = true) (ga_NoEntries : PySem.W.findIn K (.ref c_NoEntries) "__getattribute__" = some (some (.builtin "BaseException.__getattribute__"))) (gg_NoEntries : PySem.W.findIn K (.ref c_NoEntries) "__getattr__" = some none) (cl_NoEntries : PySem.W.findIn K (.ref c_NoEntries) "__class__" = some (some (.builtin "object.__class__"))) (hd_NoEntries : PySem.W.hasDictIn K c_NoEntries = true) (ic_NoEntries : PySem.W.isClsIn K c_NoEntries = true) (ob_NoEntries : PySem.W.mroIn K c_NoEntries (.type "object") = some true)
    (aC_NotEnd : PySem.W.nsIn K mainGlobals "NotEnd" = some (some (.ref c_NotEnd))) (xL_NotEnd : K.lookup c_NotEnd = some (excClassObj nm_NotEnd q_NotEnd c_NotEnd N_NotEnd bs_NotEnd [.ref cO, .type "ValueError", .type "Exception", .type "BaseException", .type "object"] true sn_NotEnd sub_NotEnd ab_NotEnd col_NotEnd dd_NotEnd m0_NotEnd m1_NotEnd m2_NotEnd m3_NotEnd m5_NotEnd "ValueError.__new__"))
    (iC_NotEnd : PySem.W.findIn K (.ref c_NotEnd) "__init__" = some (some (.ref g_NotEnd))) (iT_NotEnd : PySem.W.typeIn K (.ref g_NotEnd) = some (.type "function")) (lC_NotEnd : K.lookup g_NotEnd = some ⟨oc_NotEnd, od_NotEnd, .func (PySem.W.fnOf "__init__" "NotEnd.__init__" (defArgs s_NotEnd_init) (defBody s_NotEnd_init) (defScope s_NotEnd_init) .none kV_NotEnd dc_NotEnd pm_NotEnd an_NotEnd cd_NotEnd ct_NotEnd), sl_NotEnd⟩) (cC_NotEnd : PySem.W.codeIn K cd_NotEnd "NotEnd.__init__" = true) (kC_NotEnd : PySem.W.keepIn K (.ref g_NotEnd) = true)
    (sa_NotEnd : PySem.W.findIn K (.ref c_NotEnd) "__setattr__" = some (some (.builtin "object.__setattr__"))) (eC_NotEnd : PySem.W.subIn K (.ref c_NotEnd) (.type "BaseException") = some true) (tC_NotEnd : PySem.W.typeIn K (.ref c_NotEnd) = some (.type "type")) (pC_NotEnd : PySem.W.keepIn K (.ref c_NotEnd) = true) (ga_NotEnd : PySem.W.findIn K (.ref c_NotEnd) "__getattribute__" = some (some (.builtin "BaseException.__getattribute__"))) (gg_NotEnd : PySem.W.findIn K (.ref c_NotEnd) "__getattr__" = some none) (cl_NotEnd : PySem.W.findIn K (.ref c_NotEnd) "__class__" = some (some (.builtin "object.__class__"))) (hd_NotEnd : PySem.W.hasDictIn K c_NotEnd = true) (ic_NotEnd : PySem.W.isClsIn K c_NotEnd = true) (ob_NotEnd : PySem.W.mroIn K c_NotEnd (.type "object") = some true)
    (aC_NotCarried : PySem.W.nsIn K mainGlobals "NotCarried" = some (some (.ref c_NotCarried))) (xL_NotCarried : K.lookup c_NotCarried = some (excClassObj nm_NotCarried q_NotCarried c_NotCarried N_NotCarried bs_NotCarried [.ref cO, .type "ValueError", .type "Exception", .type "BaseException", .type "object"] true sn_NotCarried sub_NotCarried ab_NotCarried col_NotCarried dd_NotCarried m0_NotCarried m1_NotCarried m2_NotCarried m3_NotCarried m5_NotCarried "ValueError.__new__"))
    (iC_NotCarried : PySem.W.findIn K (.ref c_NotCarried) "__init__" = some (some (.ref g_NotCarried))) (iT_NotCarried : PySem.W.typeIn K (.ref g_NotCarried) = some (.type "function")) (lC_NotCarried : K.lookup g_NotCarried = some ⟨oc_NotCarried, od_NotCarried, .func (PySem.W.fnOf "__init__" "NotCarried.__init__" (defArgs s_NotCarried_init) (defBody s_NotCarried_init) (defScope s_NotCarried_init) .none kV_NotCarried dc_NotCarried pm_NotCarried an_NotCarried cd_NotCarried ct_NotCarried), sl_NotCarried⟩) (cC_NotCarried : PySem.W.codeIn K cd_NotCarried "NotCarried.__init__" = true) (kC_NotCarried : PySem.W.keepIn K (.ref g_NotCarried) = true)
    (sa_NotCarried : PySem.W.findIn K (.ref c_NotCarried) "__setattr__" = some (some (.builtin "object.__setattr__"))) (eC_NotCarried : PySem.W.subIn K (.ref c_NotCarried) (.type "BaseException") = some true) (tC_NotCarried : PySem.W.typeIn K (.ref c_NotCarried) = some (.type "type")) (pC_NotCarried : PySem.W.keepIn K (.ref c_NotCarried) = true) (ga_NotCarried : PySem.W.findIn K (.ref c_NotCarried) "__getattribute__" = some (some (.builtin "BaseException.__getattribute__"))) (gg_NotCarried : PySem.W.findIn K (.ref c_NotCarried) "__getattr__" = some none) (cl_NotCarried : PySem.W.findIn K (.ref c_NotCarried) "__class__" = some (some (.builtin "object.__class__"))) (hd_NotCarried : PySem.W.hasDictIn K c_NotCarried = true) (ic_NotCarried : PySem.W.isClsIn K c_NotCarried = true) (ob_NotCarried : PySem.W.mroIn K c_NotCarried (.type "object") = some true)
    (aC_Unlike : PySem.W.nsIn K mainGlobals "Unlike" = some (some (.ref c_Unlike))) (xL_Unlike : K.lookup c_Unlike = some (excClassObj nm_Unlike q_Unlike c_Unlike N_Unlike bs_Unlike [.ref cO, .type "ValueError", .type "Exception", .type "BaseException", .type "object"] true sn_Unlike sub_Unlike ab_Unlike col_Unlike dd_Unlike m0_Unlike m1_Unlike m2_Unlike m3_Unlike m5_Unlike "ValueError.__new__"))
    (iC_Unlike : PySem.W.findIn K (.ref c_Unlike) "__init__" = some (some (.ref g_Unlike))) (iT_Unlike : PySem.W.typeIn K (.ref g_Unlike) = some (.type "function")) (lC_Unlike : K.lookup g_Unlike = some ⟨oc_Unlike, od_Unlike, .func (PySem.W.fnOf "__init__" "Unlike.__init__" (defArgs s_Unlike_init) (defBody s_Unlike_init) (defScope s_Unlike_init) .none kV_Unlike dc_Unlike pm_Unlike an_Unlike cd_Unlike ct_Unlike), sl_Unlike⟩) (cC_Unlike : PySem.W.codeIn K cd_Unlike "Unlike.__init__" = true) (kC_Unlike : PySem.W.keepIn K (.ref g_Unlike) = true)
    (sa_Unlike : PySem.W.findIn K (.ref c_Unlike) "__setattr__" = some (some (.builtin "object.__setattr__"))) (eC_Unlike : PySem.W.subIn K (.ref c_Unlike) (.type "BaseException") = some true) (tC_Unlike : PySem.W.typeIn K (.ref c_Unlike) = some (.type "type")) (pC_Unlike : PySem.W.keepIn K (.ref c_Unlike) = true) (ga_Unlike : PySem.W.findIn K (.ref c_Unlike) "__getattribute__" = some (some (.builtin "BaseException.__getattribute__"))) (gg_Unlike : PySem.W.findIn K (.ref c_Unlike) "__getattr__" = some none) (cl_Unlike : PySem.W.findIn K (.ref c_Unlike) "__class__" = some (some (.builtin "object.__class__"))) (hd_Unlike : PySem.W.hasDictIn K c_Unlike = true) (ic_Unlike : PySem.W.isClsIn K c_Unlike = true) (ob_Unlike : PySem.W.mroIn K c_Unlike (.type "object") = some true)
    (zg : PySem.W.specialIn K (.builtin "object.__class__") "__get__" = some (some (.builtin "getset_descriptor.__get__"))) (zt : PySem.W.takesIn K (.builtin "object.__class__") = some true)
    (t1 : tabB K [c_InvalidName, c_InvalidNumber, c_InvalidRow, c_NoTarget, c_NoClass, c_NoLanding, c_InvalidRows, c_InvalidKind, c_InvalidFrame, c_InvalidWord, c_NotReady, c_TooMany, c_InvalidAddress, c_Locked, c_Blank, c_StateClash, c_NoCondition, c_NoField, c_NoKind, c_NoState, c_Taken, c_NotPossible, c_NoCase, c_WrongCount, c_TooLarge, c_InvalidText, c_FieldClash, c_Clash, c_NoStates, c_NoEntries, c_NotEnd, c_NotCarried, c_Unlike] = true) (t2 : allB K [c_InvalidName, c_InvalidNumber, c_InvalidRow, c_NoTarget, c_NoClass, c_NoLanding, c_InvalidRows, c_InvalidKind, c_InvalidFrame, c_InvalidWord, c_NotReady, c_TooMany, c_InvalidAddress, c_Locked, c_Blank, c_StateClash, c_NoCondition, c_NoField, c_NoKind, c_NoState, c_Taken, c_NotPossible, c_NoCase, c_WrongCount, c_TooLarge, c_InvalidText, c_FieldClash, c_Clash, c_NoStates, c_NoEntries, c_NotEnd, c_NotCarried, c_Unlike] (.ref cO) = true) (t3 : allB K [c_InvalidName, c_InvalidNumber, c_InvalidRow, c_NoTarget, c_NoClass, c_NoLanding, c_InvalidRows, c_InvalidKind, c_InvalidFrame, c_InvalidWord, c_NotReady, c_TooMany, c_InvalidAddress, c_Locked, c_Blank, c_StateClash, c_NoCondition, c_NoField, c_NoKind, c_NoState, c_Taken, c_NotPossible, c_NoCase, c_WrongCount, c_TooLarge, c_InvalidText, c_FieldClash, c_Clash, c_NoStates, c_NoEntries, c_NotEnd, c_NotCarried, c_Unlike] (.type "ValueError") = true) (t4 : noneB K [c_InvalidName, c_InvalidNumber, c_InvalidRow, c_NoTarget, c_NoClass, c_NoLanding, c_InvalidRows, c_InvalidKind, c_InvalidFrame, c_InvalidWord, c_NotReady, c_TooMany, c_InvalidAddress, c_Locked, c_Blank, c_StateClash, c_NoCondition, c_NoField, c_NoKind, c_NoState, c_Taken, c_NotPossible, c_NoCase, c_WrongCount, c_TooLarge, c_InvalidText, c_FieldClash, c_Clash, c_NoStates, c_NoEntries, c_NotEnd, c_NotCarried, c_Unlike] [.type "KeyError", .type "IndexError", .type "LookupError", .type "ArithmeticError", .type "OverflowError"] = true) (t5 : noneB K [c_InvalidName, c_InvalidNumber, c_InvalidRow, c_NoTarget, c_NoClass, c_NoLanding, c_InvalidRows, c_InvalidKind, c_InvalidFrame, c_InvalidWord, c_NotReady, c_TooMany, c_InvalidAddress, c_Locked, c_Blank, c_StateClash, c_NoCondition, c_NoField, c_NoKind, c_NoState, c_Taken, c_NotPossible, c_NoCase, c_WrongCount, c_TooLarge, c_InvalidText, c_FieldClash, c_Clash, c_NoStates, c_NoEntries, c_NotEnd, c_NotCarried, c_Unlike] [.type "TypeError", .type "RuntimeError"] = true) :
    ∃ fd : FuncData, (∀ (s : Shared) (v : Value), BindsTo s fd ⟨[v], []⟩ [("_law_script", v)]) ∧ ∀ base : Heap, K.In base → base.Ns mainGlobals mg → FnG l.prog w K mg base 4 fa fd ["_law_script"] (spLaw K) := by
  have e := hfa.symm.trans (PySem.W.mg_of X G a10)
  cases e
  have F1 := fun_mk (st := s__law_pen) l1 c1 k1
  have b1 := F1.binds (ps := ["_law_script"]) fun _ _ _ _ _ _ us hl => match us, hl with | [_], _ => rfl
  have F2 := fun_mk (st := s__law_draw) l2 c2 k2
  have b2 := F2.binds (ps := ["_law_pen_here", "_law_many"]) fun _ _ _ _ _ _ us hl => match us, hl with | [_, _], _ => rfl
  have F3 := fun_mk (st := s__law_pick) l3 c3 k3
  have b3 := F3.binds (ps := ["_law_pen_here", "_law_some"]) fun _ _ _ _ _ _ us hl => match us, hl with | [_, _], _ => rfl
  have F4 := fun_mk (st := s__law_thing) l4 c4 k4
  have b4 := F4.binds (ps := ["_law_pen_here"]) fun _ _ _ _ _ _ us hl => match us, hl with | [_], _ => rfl
  have F5 := fun_mk (st := s__law_kinds) l5 c5 k5
  have b5 := F5.binds (ps := ["_law_error"]) fun _ _ _ _ _ _ us hl => match us, hl with | [_], _ => rfl
  have F6 := fun_mk (st := s__law_is_based) l6 c6 k6
  have b6 := F6.binds (ps := ["_law_error"]) fun _ _ _ _ _ _ us hl => match us, hl with | [_], _ => rfl
  have F7 := fun_mk (st := s__law_values) l7 c7 k7
  have b7 := F7.binds (ps := ["_law_left"]) fun _ _ _ _ _ _ us hl => match us, hl with | [_], _ => rfl
  have F8 := fun_mk (st := s__law_places) l8 c8 k8
  have b8 := F8.binds (ps := ["_law_left"]) fun _ _ _ _ _ _ us hl => match us, hl with | [_], _ => rfl
  have F9 := fun_mk (st := s__law_several_right) l9 c9 k9
  have b9 := F9.binds (ps := ["_law_left", "_law_middle", "_law_right"]) fun _ _ _ _ _ _ us hl => match us, hl with | [_, _, _], _ => rfl
  have F10 := fun_mk (st := s_law) l10 c10 k10
  have b10 := F10.binds (ps := ["_law_script"]) fun _ _ _ _ _ _ us hl => match us, hl with | [_], _ => rfl
  have F_InvalidName := fun_mk (st := s_InvalidName_init) lC_InvalidName cC_InvalidName kC_InvalidName
  have b_InvalidName := F_InvalidName.binds (ps := ["self", "value"]) fun _ _ _ _ _ _ us hl => match us, hl with | [_, _], _ => rfl
  have F_InvalidNumber := fun_mk (st := s_InvalidNumber_init) lC_InvalidNumber cC_InvalidNumber kC_InvalidNumber
  have b_InvalidNumber := F_InvalidNumber.binds (ps := ["self", "value"]) fun _ _ _ _ _ _ us hl => match us, hl with | [_, _], _ => rfl
  have F_InvalidRow := fun_mk (st := s_InvalidRow_init) lC_InvalidRow cC_InvalidRow kC_InvalidRow
  have b_InvalidRow := F_InvalidRow.binds (ps := ["self", "value"]) fun _ _ _ _ _ _ us hl => match us, hl with | [_, _], _ => rfl
  have F_NoTarget := fun_mk (st := s_NoTarget_init) lC_NoTarget cC_NoTarget kC_NoTarget
  have b_NoTarget := F_NoTarget.binds (ps := ["self", "value"]) fun _ _ _ _ _ _ us hl => match us, hl with | [_, _], _ => rfl
  have F_NoClass := fun_mk (st := s_NoClass_init) lC_NoClass cC_NoClass kC_NoClass
  have b_NoClass := F_NoClass.binds (ps := ["self", "value"]) fun _ _ _ _ _ _ us hl => match us, hl with | [_, _], _ => rfl
  have F_NoLanding := fun_mk (st := s_NoLanding_init) lC_NoLanding cC_NoLanding kC_NoLanding
  have b_NoLanding := F_NoLanding.binds (ps := ["self", "value"]) fun _ _ _ _ _ _ us hl => match us, hl with | [_, _], _ => rfl
  have F_InvalidRows := fun_mk (st := s_InvalidRows_init) lC_InvalidRows cC_InvalidRows kC_InvalidRows
  have b_InvalidRows := F_InvalidRows.binds (ps := ["self", "part"]) fun _ _ _ _ _ _ us hl => match us, hl with | [_, _], _ => rfl
  have F_InvalidKind := fun_mk (st := s_InvalidKind_init) lC_InvalidKind cC_InvalidKind kC_InvalidKind
  have b_InvalidKind := F_InvalidKind.binds (ps := ["self", "part"]) fun _ _ _ _ _ _ us hl => match us, hl with | [_, _], _ => rfl
  have F_InvalidFrame := fun_mk (st := s_InvalidFrame_init) lC_InvalidFrame cC_InvalidFrame kC_InvalidFrame
  have b_InvalidFrame := F_InvalidFrame.binds (ps := ["self", "part"]) fun _ _ _ _ _ _ us hl => match us, hl with | [_, _], _ => rfl
  have F_InvalidWord := fun_mk (st := s_InvalidWord_init) lC_InvalidWord cC_InvalidWord kC_InvalidWord
  have b_InvalidWord := F_InvalidWord.binds (ps := ["self", "part"]) fun _ _ _ _ _ _ us hl => match us, hl with | [_, _], _ => rfl
  have F_NotReady := fun_mk (st := s_NotReady_init) lC_NotReady cC_NotReady kC_NotReady
  have b_NotReady := F_NotReady.binds (ps := ["self", "part"]) fun _ _ _ _ _ _ us hl => match us, hl with | [_, _], _ => rfl
  have F_TooMany := fun_mk (st := s_TooMany_init) lC_TooMany cC_TooMany kC_TooMany
  have b_TooMany := F_TooMany.binds (ps := ["self", "part"]) fun _ _ _ _ _ _ us hl => match us, hl with | [_, _], _ => rfl
  have F_InvalidAddress := fun_mk (st := s_InvalidAddress_init) lC_InvalidAddress cC_InvalidAddress kC_InvalidAddress
  have b_InvalidAddress := F_InvalidAddress.binds (ps := ["self", "address"]) fun _ _ _ _ _ _ us hl => match us, hl with | [_, _], _ => rfl
  have F_Locked := fun_mk (st := s_Locked_init) lC_Locked cC_Locked kC_Locked
  have b_Locked := F_Locked.binds (ps := ["self", "address"]) fun _ _ _ _ _ _ us hl => match us, hl with | [_, _], _ => rfl
  have F_Blank := fun_mk (st := s_Blank_init) lC_Blank cC_Blank kC_Blank
  have b_Blank := F_Blank.binds (ps := ["self", "address"]) fun _ _ _ _ _ _ us hl => match us, hl with | [_, _], _ => rfl
  have F_StateClash := fun_mk (st := s_StateClash_init) lC_StateClash cC_StateClash kC_StateClash
  have b_StateClash := F_StateClash.binds (ps := ["self", "name"]) fun _ _ _ _ _ _ us hl => match us, hl with | [_, _], _ => rfl
  have F_NoCondition := fun_mk (st := s_NoCondition_init) lC_NoCondition cC_NoCondition kC_NoCondition
  have b_NoCondition := F_NoCondition.binds (ps := ["self", "name"]) fun _ _ _ _ _ _ us hl => match us, hl with | [_, _], _ => rfl
  have F_NoField := fun_mk (st := s_NoField_init) lC_NoField cC_NoField kC_NoField
  have b_NoField := F_NoField.binds (ps := ["self", "name"]) fun _ _ _ _ _ _ us hl => match us, hl with | [_, _], _ => rfl
  have F_NoKind := fun_mk (st := s_NoKind_init) lC_NoKind cC_NoKind kC_NoKind
  have b_NoKind := F_NoKind.binds (ps := ["self", "name"]) fun _ _ _ _ _ _ us hl => match us, hl with | [_, _], _ => rfl
  have F_NoState := fun_mk (st := s_NoState_init) lC_NoState cC_NoState kC_NoState
  have b_NoState := F_NoState.binds (ps := ["self", "name"]) fun _ _ _ _ _ _ us hl => match us, hl with | [_, _], _ => rfl
  have F_Taken := fun_mk (st := s_Taken_init) lC_Taken cC_Taken kC_Taken
  have b_Taken := F_Taken.binds (ps := ["self", "name"]) fun _ _ _ _ _ _ us hl => match us, hl with | [_, _], _ => rfl
  have F_NotPossible := fun_mk (st := s_NotPossible_init) lC_NotPossible cC_NotPossible kC_NotPossible
  have b_NotPossible := F_NotPossible.binds (ps := ["self", "row"]) fun _ _ _ _ _ _ us hl => match us, hl with | [_, _], _ => rfl
  have F_NoCase := fun_mk (st := s_NoCase_init) lC_NoCase cC_NoCase kC_NoCase
  have b_NoCase := F_NoCase.binds (ps := ["self", "case"]) fun _ _ _ _ _ _ us hl => match us, hl with | [_, _], _ => rfl
  have F_WrongCount := fun_mk (st := s_WrongCount_init) lC_WrongCount cC_WrongCount kC_WrongCount
  have b_WrongCount := F_WrongCount.binds (ps := ["self", "wanted"]) fun _ _ _ _ _ _ us hl => match us, hl with | [_, _], _ => rfl
  have F_TooLarge := fun_mk (st := s_TooLarge_init) lC_TooLarge cC_TooLarge kC_TooLarge
  have b_TooLarge := F_TooLarge.binds (ps := ["self", "limit"]) fun _ _ _ _ _ _ us hl => match us, hl with | [_, _], _ => rfl
  have F_InvalidText := fun_mk (st := s_InvalidText_init) lC_InvalidText cC_InvalidText kC_InvalidText
  have b_InvalidText := F_InvalidText.binds (ps := ["self", "line", "word"]) fun _ _ _ _ _ _ us hl => match us, hl with | [_, _, _], _ => rfl
  have F_FieldClash := fun_mk (st := s_FieldClash_init) lC_FieldClash cC_FieldClash kC_FieldClash
  have b_FieldClash := F_FieldClash.binds (ps := ["self", "field", "one", "other"]) fun _ _ _ _ _ _ us hl => match us, hl with | [_, _, _, _], _ => rfl
  have F_Clash := fun_mk (st := s_Clash_init) lC_Clash cC_Clash kC_Clash
  have b_Clash := F_Clash.binds (ps := ["self", "lesser", "name"]) fun _ _ _ _ _ _ us hl => match us, hl with | [_, _, _], _ => rfl
  have F_NoStates := fun_mk (st := s_NoStates_init) lC_NoStates cC_NoStates kC_NoStates
  have b_NoStates := F_NoStates.binds (ps := ["self"]) fun _ _ _ _ _ _ us hl => match us, hl with | [_], _ => rfl
  have F_NoEntries := fun_mk (st := s_NoEntries_init) lC_NoEntries cC_NoEntries kC_NoEntries
  have b_NoEntries := F_NoEntries.binds (ps := ["self"]) fun _ _ _ _ _ _ us hl => match us, hl with | [_], _ => rfl
  have F_NotEnd := fun_mk (st := s_NotEnd_init) lC_NotEnd cC_NotEnd kC_NotEnd
  have b_NotEnd := F_NotEnd.binds (ps := ["self"]) fun _ _ _ _ _ _ us hl => match us, hl with | [_], _ => rfl
  have F_NotCarried := fun_mk (st := s_NotCarried_init) lC_NotCarried cC_NotCarried kC_NotCarried
  have b_NotCarried := F_NotCarried.binds (ps := ["self"]) fun _ _ _ _ _ _ us hl => match us, hl with | [_], _ => rfl
  have F_Unlike := fun_mk (st := s_Unlike_init) lC_Unlike cC_Unlike kC_Unlike
  have b_Unlike := F_Unlike.binds (ps := ["self"]) fun _ _ _ _ _ _ us hl => match us, hl with | [_], _ => rfl
  let T : Txt K mg := {
    f__law_pen := f1,
    fd__law_pen := _,
    F__law_pen := F1,
    b__law_pen := b1,
    m__law_pen := PySem.W.mg_of X G a1,
    f__law_draw := f2,
    fd__law_draw := _,
    F__law_draw := F2,
    b__law_draw := b2,
    m__law_draw := PySem.W.mg_of X G a2,
    f__law_pick := f3,
    fd__law_pick := _,
    F__law_pick := F3,
    b__law_pick := b3,
    m__law_pick := PySem.W.mg_of X G a3,
    f__law_thing := f4,
    fd__law_thing := _,
    F__law_thing := F4,
    b__law_thing := b4,
    m__law_thing := PySem.W.mg_of X G a4,
    f__law_kinds := f5,
    fd__law_kinds := _,
    F__law_kinds := F5,
    b__law_kinds := b5,
    m__law_kinds := PySem.W.mg_of X G a5,
    f__law_is_based := f6,
    fd__law_is_based := _,
    F__law_is_based := F6,
    b__law_is_based := b6,
    m__law_is_based := PySem.W.mg_of X G a6,
    f__law_values := f7,
    fd__law_values := _,
    F__law_values := F7,
    b__law_values := b7,
    m__law_values := PySem.W.mg_of X G a7,
    f__law_places := f8,
    fd__law_places := _,
    F__law_places := F8,
    b__law_places := b8,
    m__law_places := PySem.W.mg_of X G a8,
    f__law_several_right := f9,
    fd__law_several_right := _,
    F__law_several_right := F9,
    b__law_several_right := b9,
    m__law_several_right := PySem.W.mg_of X G a9,
    f_law := fa,
    fd_law := _,
    F_law := F10,
    b_law := b10,
    m_law := PySem.W.mg_of X G a10,
    n_ArithmeticError := PySem.W.mg_none_of X G z_ArithmeticError,
    n_IndexError := PySem.W.mg_none_of X G z_IndexError,
    n_KeyError := PySem.W.mg_none_of X G z_KeyError,
    n_LookupError := PySem.W.mg_none_of X G z_LookupError,
    n_OverflowError := PySem.W.mg_none_of X G z_OverflowError,
    n_RuntimeError := PySem.W.mg_none_of X G z_RuntimeError,
    n_TypeError := PySem.W.mg_none_of X G z_TypeError,
    n_ValueError := PySem.W.mg_none_of X G z_ValueError,
    n_abs := PySem.W.mg_none_of X G z_abs,
    n_enumerate := PySem.W.mg_none_of X G z_enumerate,
    n_int := PySem.W.mg_none_of X G z_int,
    n_isinstance := PySem.W.mg_none_of X G z_isinstance,
    n_len := PySem.W.mg_none_of X G z_len,
    n_list := PySem.W.mg_none_of X G z_list,
    n_range := PySem.W.mg_none_of X G z_range,
    n_repr := PySem.W.mg_none_of X G z_repr,
    c_InvalidName := c_InvalidName,
    f_InvalidName_init := g_InvalidName,
    fd_InvalidName_init := _,
    F_InvalidName_init := F_InvalidName,
    b_InvalidName_init := b_InvalidName,
    m_InvalidName := PySem.W.mg_of X G aC_InvalidName,
    ex_InvalidName := ⟨⟨⟨_, _, _, _, _, _, _, _, _, _, _, _, _, _, _, xL_InvalidName, rfl⟩, sa_InvalidName, eC_InvalidName, tC_InvalidName, pC_InvalidName⟩, iC_InvalidName, iT_InvalidName, ga_InvalidName, gg_InvalidName, cl_InvalidName, hd_InvalidName, ic_InvalidName, ob_InvalidName⟩,
    no_InvalidName_value := no_InvalidName_value,
    c_InvalidNumber := c_InvalidNumber,
    f_InvalidNumber_init := g_InvalidNumber,
    fd_InvalidNumber_init := _,
    F_InvalidNumber_init := F_InvalidNumber,
    b_InvalidNumber_init := b_InvalidNumber,
    m_InvalidNumber := PySem.W.mg_of X G aC_InvalidNumber,
    ex_InvalidNumber := ⟨⟨⟨_, _, _, _, _, _, _, _, _, _, _, _, _, _, _, xL_InvalidNumber, rfl⟩, sa_InvalidNumber, eC_InvalidNumber, tC_InvalidNumber, pC_InvalidNumber⟩, iC_InvalidNumber, iT_InvalidNumber, ga_InvalidNumber, gg_InvalidNumber, cl_InvalidNumber, hd_InvalidNumber, ic_InvalidNumber, ob_InvalidNumber⟩,
    no_InvalidNumber_value := no_InvalidNumber_value,
    c_InvalidRow := c_InvalidRow,
    f_InvalidRow_init := g_InvalidRow,
    fd_InvalidRow_init := _,
    F_InvalidRow_init := F_InvalidRow,
    b_InvalidRow_init := b_InvalidRow,
    m_InvalidRow := PySem.W.mg_of X G aC_InvalidRow,
    ex_InvalidRow := ⟨⟨⟨_, _, _, _, _, _, _, _, _, _, _, _, _, _, _, xL_InvalidRow, rfl⟩, sa_InvalidRow, eC_InvalidRow, tC_InvalidRow, pC_InvalidRow⟩, iC_InvalidRow, iT_InvalidRow, ga_InvalidRow, gg_InvalidRow, cl_InvalidRow, hd_InvalidRow, ic_InvalidRow, ob_InvalidRow⟩,
    no_InvalidRow_value := no_InvalidRow_value,
    c_NoTarget := c_NoTarget,
    f_NoTarget_init := g_NoTarget,
    fd_NoTarget_init := _,
    F_NoTarget_init := F_NoTarget,
    b_NoTarget_init := b_NoTarget,
    m_NoTarget := PySem.W.mg_of X G aC_NoTarget,
    ex_NoTarget := ⟨⟨⟨_, _, _, _, _, _, _, _, _, _, _, _, _, _, _, xL_NoTarget, rfl⟩, sa_NoTarget, eC_NoTarget, tC_NoTarget, pC_NoTarget⟩, iC_NoTarget, iT_NoTarget, ga_NoTarget, gg_NoTarget, cl_NoTarget, hd_NoTarget, ic_NoTarget, ob_NoTarget⟩,
    no_NoTarget_value := no_NoTarget_value,
    c_NoClass := c_NoClass,
    f_NoClass_init := g_NoClass,
    fd_NoClass_init := _,
    F_NoClass_init := F_NoClass,
    b_NoClass_init := b_NoClass,
    m_NoClass := PySem.W.mg_of X G aC_NoClass,
    ex_NoClass := ⟨⟨⟨_, _, _, _, _, _, _, _, _, _, _, _, _, _, _, xL_NoClass, rfl⟩, sa_NoClass, eC_NoClass, tC_NoClass, pC_NoClass⟩, iC_NoClass, iT_NoClass, ga_NoClass, gg_NoClass, cl_NoClass, hd_NoClass, ic_NoClass, ob_NoClass⟩,
    no_NoClass_value := no_NoClass_value,
    c_NoLanding := c_NoLanding,
    f_NoLanding_init := g_NoLanding,
    fd_NoLanding_init := _,
    F_NoLanding_init := F_NoLanding,
    b_NoLanding_init := b_NoLanding,
    m_NoLanding := PySem.W.mg_of X G aC_NoLanding,
    ex_NoLanding := ⟨⟨⟨_, _, _, _, _, _, _, _, _, _, _, _, _, _, _, xL_NoLanding, rfl⟩, sa_NoLanding, eC_NoLanding, tC_NoLanding, pC_NoLanding⟩, iC_NoLanding, iT_NoLanding, ga_NoLanding, gg_NoLanding, cl_NoLanding, hd_NoLanding, ic_NoLanding, ob_NoLanding⟩,
    no_NoLanding_value := no_NoLanding_value,
    c_InvalidRows := c_InvalidRows,
    f_InvalidRows_init := g_InvalidRows,
    fd_InvalidRows_init := _,
    F_InvalidRows_init := F_InvalidRows,
    b_InvalidRows_init := b_InvalidRows,
    m_InvalidRows := PySem.W.mg_of X G aC_InvalidRows,
    ex_InvalidRows := ⟨⟨⟨_, _, _, _, _, _, _, _, _, _, _, _, _, _, _, xL_InvalidRows, rfl⟩, sa_InvalidRows, eC_InvalidRows, tC_InvalidRows, pC_InvalidRows⟩, iC_InvalidRows, iT_InvalidRows, ga_InvalidRows, gg_InvalidRows, cl_InvalidRows, hd_InvalidRows, ic_InvalidRows, ob_InvalidRows⟩,
    no_InvalidRows_part := no_InvalidRows_part,
    c_InvalidKind := c_InvalidKind,
    f_InvalidKind_init := g_InvalidKind,
    fd_InvalidKind_init := _,
    F_InvalidKind_init := F_InvalidKind,
    b_InvalidKind_init := b_InvalidKind,
    m_InvalidKind := PySem.W.mg_of X G aC_InvalidKind,
    ex_InvalidKind := ⟨⟨⟨_, _, _, _, _, _, _, _, _, _, _, _, _, _, _, xL_InvalidKind, rfl⟩, sa_InvalidKind, eC_InvalidKind, tC_InvalidKind, pC_InvalidKind⟩, iC_InvalidKind, iT_InvalidKind, ga_InvalidKind, gg_InvalidKind, cl_InvalidKind, hd_InvalidKind, ic_InvalidKind, ob_InvalidKind⟩,
    no_InvalidKind_part := no_InvalidKind_part,
    c_InvalidFrame := c_InvalidFrame,
    f_InvalidFrame_init := g_InvalidFrame,
    fd_InvalidFrame_init := _,
    F_InvalidFrame_init := F_InvalidFrame,
    b_InvalidFrame_init := b_InvalidFrame,
    m_InvalidFrame := PySem.W.mg_of X G aC_InvalidFrame,
    ex_InvalidFrame := ⟨⟨⟨_, _, _, _, _, _, _, _, _, _, _, _, _, _, _, xL_InvalidFrame, rfl⟩, sa_InvalidFrame, eC_InvalidFrame, tC_InvalidFrame, pC_InvalidFrame⟩, iC_InvalidFrame, iT_InvalidFrame, ga_InvalidFrame, gg_InvalidFrame, cl_InvalidFrame, hd_InvalidFrame, ic_InvalidFrame, ob_InvalidFrame⟩,
    no_InvalidFrame_part := no_InvalidFrame_part,
    c_InvalidWord := c_InvalidWord,
    f_InvalidWord_init := g_InvalidWord,
    fd_InvalidWord_init := _,
    F_InvalidWord_init := F_InvalidWord,
    b_InvalidWord_init := b_InvalidWord,
    m_InvalidWord := PySem.W.mg_of X G aC_InvalidWord,
    ex_InvalidWord := ⟨⟨⟨_, _, _, _, _, _, _, _, _, _, _, _, _, _, _, xL_InvalidWord, rfl⟩, sa_InvalidWord, eC_InvalidWord, tC_InvalidWord, pC_InvalidWord⟩, iC_InvalidWord, iT_InvalidWord, ga_InvalidWord, gg_InvalidWord, cl_InvalidWord, hd_InvalidWord, ic_InvalidWord, ob_InvalidWord⟩,
    no_InvalidWord_part := no_InvalidWord_part,
    c_NotReady := c_NotReady,
    f_NotReady_init := g_NotReady,
    fd_NotReady_init := _,
    F_NotReady_init := F_NotReady,
    b_NotReady_init := b_NotReady,
    m_NotReady := PySem.W.mg_of X G aC_NotReady,
    ex_NotReady := ⟨⟨⟨_, _, _, _, _, _, _, _, _, _, _, _, _, _, _, xL_NotReady, rfl⟩, sa_NotReady, eC_NotReady, tC_NotReady, pC_NotReady⟩, iC_NotReady, iT_NotReady, ga_NotReady, gg_NotReady, cl_NotReady, hd_NotReady, ic_NotReady, ob_NotReady⟩,
    no_NotReady_part := no_NotReady_part,
    c_TooMany := c_TooMany,
    f_TooMany_init := g_TooMany,
    fd_TooMany_init := _,
    F_TooMany_init := F_TooMany,
    b_TooMany_init := b_TooMany,
    m_TooMany := PySem.W.mg_of X G aC_TooMany,
    ex_TooMany := ⟨⟨⟨_, _, _, _, _, _, _, _, _, _, _, _, _, _, _, xL_TooMany, rfl⟩, sa_TooMany, eC_TooMany, tC_TooMany, pC_TooMany⟩, iC_TooMany, iT_TooMany, ga_TooMany, gg_TooMany, cl_TooMany, hd_TooMany, ic_TooMany, ob_TooMany⟩,
    no_TooMany_part := no_TooMany_part,
    c_InvalidAddress := c_InvalidAddress,
    f_InvalidAddress_init := g_InvalidAddress,
    fd_InvalidAddress_init := _,
    F_InvalidAddress_init := F_InvalidAddress,
    b_InvalidAddress_init := b_InvalidAddress,
    m_InvalidAddress := PySem.W.mg_of X G aC_InvalidAddress,
    ex_InvalidAddress := ⟨⟨⟨_, _, _, _, _, _, _, _, _, _, _, _, _, _, _, xL_InvalidAddress, rfl⟩, sa_InvalidAddress, eC_InvalidAddress, tC_InvalidAddress, pC_InvalidAddress⟩, iC_InvalidAddress, iT_InvalidAddress, ga_InvalidAddress, gg_InvalidAddress, cl_InvalidAddress, hd_InvalidAddress, ic_InvalidAddress, ob_InvalidAddress⟩,
    no_InvalidAddress_address := no_InvalidAddress_address,
    c_Locked := c_Locked,
    f_Locked_init := g_Locked,
    fd_Locked_init := _,
    F_Locked_init := F_Locked,
    b_Locked_init := b_Locked,
    m_Locked := PySem.W.mg_of X G aC_Locked,
    ex_Locked := ⟨⟨⟨_, _, _, _, _, _, _, _, _, _, _, _, _, _, _, xL_Locked, rfl⟩, sa_Locked, eC_Locked, tC_Locked, pC_Locked⟩, iC_Locked, iT_Locked, ga_Locked, gg_Locked, cl_Locked, hd_Locked, ic_Locked, ob_Locked⟩,
    no_Locked_address := no_Locked_address,
    c_Blank := c_Blank,
    f_Blank_init := g_Blank,
    fd_Blank_init := _,
    F_Blank_init := F_Blank,
    b_Blank_init := b_Blank,
    m_Blank := PySem.W.mg_of X G aC_Blank,
    ex_Blank := ⟨⟨⟨_, _, _, _, _, _, _, _, _, _, _, _, _, _, _, xL_Blank, rfl⟩, sa_Blank, eC_Blank, tC_Blank, pC_Blank⟩, iC_Blank, iT_Blank, ga_Blank, gg_Blank, cl_Blank, hd_Blank, ic_Blank, ob_Blank⟩,
    no_Blank_address := no_Blank_address,
    c_StateClash := c_StateClash,
    f_StateClash_init := g_StateClash,
    fd_StateClash_init := _,
    F_StateClash_init := F_StateClash,
    b_StateClash_init := b_StateClash,
    m_StateClash := PySem.W.mg_of X G aC_StateClash,
    ex_StateClash := ⟨⟨⟨_, _, _, _, _, _, _, _, _, _, _, _, _, _, _, xL_StateClash, rfl⟩, sa_StateClash, eC_StateClash, tC_StateClash, pC_StateClash⟩, iC_StateClash, iT_StateClash, ga_StateClash, gg_StateClash, cl_StateClash, hd_StateClash, ic_StateClash, ob_StateClash⟩,
    no_StateClash_name := no_StateClash_name,
    c_NoCondition := c_NoCondition,
    f_NoCondition_init := g_NoCondition,
    fd_NoCondition_init := _,
    F_NoCondition_init := F_NoCondition,
    b_NoCondition_init := b_NoCondition,
    m_NoCondition := PySem.W.mg_of X G aC_NoCondition,
    ex_NoCondition := ⟨⟨⟨_, _, _, _, _, _, _, _, _, _, _, _, _, _, _, xL_NoCondition, rfl⟩, sa_NoCondition, eC_NoCondition, tC_NoCondition, pC_NoCondition⟩, iC_NoCondition, iT_NoCondition, ga_NoCondition, gg_NoCondition, cl_NoCondition, hd_NoCondition, ic_NoCondition, ob_NoCondition⟩,
    no_NoCondition_name := no_NoCondition_name,
    c_NoField := c_NoField,
    f_NoField_init := g_NoField,
    fd_NoField_init := _,
    F_NoField_init := F_NoField,
    b_NoField_init := b_NoField,
    m_NoField := PySem.W.mg_of X G aC_NoField,
    ex_NoField := ⟨⟨⟨_, _, _, _, _, _, _, _, _, _, _, _, _, _, _, xL_NoField, rfl⟩, sa_NoField, eC_NoField, tC_NoField, pC_NoField⟩, iC_NoField, iT_NoField, ga_NoField, gg_NoField, cl_NoField, hd_NoField, ic_NoField, ob_NoField⟩,
    no_NoField_name := no_NoField_name,
    c_NoKind := c_NoKind,
    f_NoKind_init := g_NoKind,
    fd_NoKind_init := _,
    F_NoKind_init := F_NoKind,
    b_NoKind_init := b_NoKind,
    m_NoKind := PySem.W.mg_of X G aC_NoKind,
    ex_NoKind := ⟨⟨⟨_, _, _, _, _, _, _, _, _, _, _, _, _, _, _, xL_NoKind, rfl⟩, sa_NoKind, eC_NoKind, tC_NoKind, pC_NoKind⟩, iC_NoKind, iT_NoKind, ga_NoKind, gg_NoKind, cl_NoKind, hd_NoKind, ic_NoKind, ob_NoKind⟩,
    no_NoKind_name := no_NoKind_name,
    c_NoState := c_NoState,
    f_NoState_init := g_NoState,
    fd_NoState_init := _,
    F_NoState_init := F_NoState,
    b_NoState_init := b_NoState,
    m_NoState := PySem.W.mg_of X G aC_NoState,
    ex_NoState := ⟨⟨⟨_, _, _, _, _, _, _, _, _, _, _, _, _, _, _, xL_NoState, rfl⟩, sa_NoState, eC_NoState, tC_NoState, pC_NoState⟩, iC_NoState, iT_NoState, ga_NoState, gg_NoState, cl_NoState, hd_NoState, ic_NoState, ob_NoState⟩,
    no_NoState_name := no_NoState_name,
    c_Taken := c_Taken,
    f_Taken_init := g_Taken,
    fd_Taken_init := _,
    F_Taken_init := F_Taken,
    b_Taken_init := b_Taken,
    m_Taken := PySem.W.mg_of X G aC_Taken,
    ex_Taken := ⟨⟨⟨_, _, _, _, _, _, _, _, _, _, _, _, _, _, _, xL_Taken, rfl⟩, sa_Taken, eC_Taken, tC_Taken, pC_Taken⟩, iC_Taken, iT_Taken, ga_Taken, gg_Taken, cl_Taken, hd_Taken, ic_Taken, ob_Taken⟩,
    no_Taken_name := no_Taken_name,
    c_NotPossible := c_NotPossible,
    f_NotPossible_init := g_NotPossible,
    fd_NotPossible_init := _,
    F_NotPossible_init := F_NotPossible,
    b_NotPossible_init := b_NotPossible,
    m_NotPossible := PySem.W.mg_of X G aC_NotPossible,
    ex_NotPossible := ⟨⟨⟨_, _, _, _, _, _, _, _, _, _, _, _, _, _, _, xL_NotPossible, rfl⟩, sa_NotPossible, eC_NotPossible, tC_NotPossible, pC_NotPossible⟩, iC_NotPossible, iT_NotPossible, ga_NotPossible, gg_NotPossible, cl_NotPossible, hd_NotPossible, ic_NotPossible, ob_NotPossible⟩,
    no_NotPossible_row := no_NotPossible_row,
    c_NoCase := c_NoCase,
    f_NoCase_init := g_NoCase,
    fd_NoCase_init := _,
    F_NoCase_init := F_NoCase,
    b_NoCase_init := b_NoCase,
    m_NoCase := PySem.W.mg_of X G aC_NoCase,
    ex_NoCase := ⟨⟨⟨_, _, _, _, _, _, _, _, _, _, _, _, _, _, _, xL_NoCase, rfl⟩, sa_NoCase, eC_NoCase, tC_NoCase, pC_NoCase⟩, iC_NoCase, iT_NoCase, ga_NoCase, gg_NoCase, cl_NoCase, hd_NoCase, ic_NoCase, ob_NoCase⟩,
    no_NoCase_case := no_NoCase_case,
    c_WrongCount := c_WrongCount,
    f_WrongCount_init := g_WrongCount,
    fd_WrongCount_init := _,
    F_WrongCount_init := F_WrongCount,
    b_WrongCount_init := b_WrongCount,
    m_WrongCount := PySem.W.mg_of X G aC_WrongCount,
    ex_WrongCount := ⟨⟨⟨_, _, _, _, _, _, _, _, _, _, _, _, _, _, _, xL_WrongCount, rfl⟩, sa_WrongCount, eC_WrongCount, tC_WrongCount, pC_WrongCount⟩, iC_WrongCount, iT_WrongCount, ga_WrongCount, gg_WrongCount, cl_WrongCount, hd_WrongCount, ic_WrongCount, ob_WrongCount⟩,
    no_WrongCount_wanted := no_WrongCount_wanted,
    c_TooLarge := c_TooLarge,
    f_TooLarge_init := g_TooLarge,
    fd_TooLarge_init := _,
    F_TooLarge_init := F_TooLarge,
    b_TooLarge_init := b_TooLarge,
    m_TooLarge := PySem.W.mg_of X G aC_TooLarge,
    ex_TooLarge := ⟨⟨⟨_, _, _, _, _, _, _, _, _, _, _, _, _, _, _, xL_TooLarge, rfl⟩, sa_TooLarge, eC_TooLarge, tC_TooLarge, pC_TooLarge⟩, iC_TooLarge, iT_TooLarge, ga_TooLarge, gg_TooLarge, cl_TooLarge, hd_TooLarge, ic_TooLarge, ob_TooLarge⟩,
    no_TooLarge_limit := no_TooLarge_limit,
    c_InvalidText := c_InvalidText,
    f_InvalidText_init := g_InvalidText,
    fd_InvalidText_init := _,
    F_InvalidText_init := F_InvalidText,
    b_InvalidText_init := b_InvalidText,
    m_InvalidText := PySem.W.mg_of X G aC_InvalidText,
    ex_InvalidText := ⟨⟨⟨_, _, _, _, _, _, _, _, _, _, _, _, _, _, _, xL_InvalidText, rfl⟩, sa_InvalidText, eC_InvalidText, tC_InvalidText, pC_InvalidText⟩, iC_InvalidText, iT_InvalidText, ga_InvalidText, gg_InvalidText, cl_InvalidText, hd_InvalidText, ic_InvalidText, ob_InvalidText⟩,
    no_InvalidText_line := no_InvalidText_line,
    no_InvalidText_word := no_InvalidText_word,
    c_FieldClash := c_FieldClash,
    f_FieldClash_init := g_FieldClash,
    fd_FieldClash_init := _,
    F_FieldClash_init := F_FieldClash,
    b_FieldClash_init := b_FieldClash,
    m_FieldClash := PySem.W.mg_of X G aC_FieldClash,
    ex_FieldClash := ⟨⟨⟨_, _, _, _, _, _, _, _, _, _, _, _, _, _, _, xL_FieldClash, rfl⟩, sa_FieldClash, eC_FieldClash, tC_FieldClash, pC_FieldClash⟩, iC_FieldClash, iT_FieldClash, ga_FieldClash, gg_FieldClash, cl_FieldClash, hd_FieldClash, ic_FieldClash, ob_FieldClash⟩,
    no_FieldClash_field := no_FieldClash_field,
    no_FieldClash_one := no_FieldClash_one,
    no_FieldClash_other := no_FieldClash_other,
    c_Clash := c_Clash,
    f_Clash_init := g_Clash,
    fd_Clash_init := _,
    F_Clash_init := F_Clash,
    b_Clash_init := b_Clash,
    m_Clash := PySem.W.mg_of X G aC_Clash,
    ex_Clash := ⟨⟨⟨_, _, _, _, _, _, _, _, _, _, _, _, _, _, _, xL_Clash, rfl⟩, sa_Clash, eC_Clash, tC_Clash, pC_Clash⟩, iC_Clash, iT_Clash, ga_Clash, gg_Clash, cl_Clash, hd_Clash, ic_Clash, ob_Clash⟩,
    no_Clash_lesser := no_Clash_lesser,
    no_Clash_name := no_Clash_name,
    c_NoStates := c_NoStates,
    f_NoStates_init := g_NoStates,
    fd_NoStates_init := _,
    F_NoStates_init := F_NoStates,
    b_NoStates_init := b_NoStates,
    m_NoStates := PySem.W.mg_of X G aC_NoStates,
    ex_NoStates := ⟨⟨⟨_, _, _, _, _, _, _, _, _, _, _, _, _, _, _, xL_NoStates, rfl⟩, sa_NoStates, eC_NoStates, tC_NoStates, pC_NoStates⟩, iC_NoStates, iT_NoStates, ga_NoStates, gg_NoStates, cl_NoStates, hd_NoStates, ic_NoStates, ob_NoStates⟩,
    c_NoEntries := c_NoEntries,
    f_NoEntries_init := g_NoEntries,
    fd_NoEntries_init := _,
    F_NoEntries_init := F_NoEntries,
    b_NoEntries_init := b_NoEntries,
    m_NoEntries := PySem.W.mg_of X G aC_NoEntries,
    ex_NoEntries := ⟨⟨⟨_, _, _, _, _, _, _, _, _, _, _, _, _, _, _, xL_NoEntries, rfl⟩, sa_NoEntries, eC_NoEntries, tC_NoEntries, pC_NoEntries⟩, iC_NoEntries, iT_NoEntries, ga_NoEntries, gg_NoEntries, cl_NoEntries, hd_NoEntries, ic_NoEntries, ob_NoEntries⟩,
    c_NotEnd := c_NotEnd,
    f_NotEnd_init := g_NotEnd,
    fd_NotEnd_init := _,
    F_NotEnd_init := F_NotEnd,
    b_NotEnd_init := b_NotEnd,
    m_NotEnd := PySem.W.mg_of X G aC_NotEnd,
    ex_NotEnd := ⟨⟨⟨_, _, _, _, _, _, _, _, _, _, _, _, _, _, _, xL_NotEnd, rfl⟩, sa_NotEnd, eC_NotEnd, tC_NotEnd, pC_NotEnd⟩, iC_NotEnd, iT_NotEnd, ga_NotEnd, gg_NotEnd, cl_NotEnd, hd_NotEnd, ic_NotEnd, ob_NotEnd⟩,
    c_NotCarried := c_NotCarried,
    f_NotCarried_init := g_NotCarried,
    fd_NotCarried_init := _,
    F_NotCarried_init := F_NotCarried,
    b_NotCarried_init := b_NotCarried,
    m_NotCarried := PySem.W.mg_of X G aC_NotCarried,
    ex_NotCarried := ⟨⟨⟨_, _, _, _, _, _, _, _, _, _, _, _, _, _, _, xL_NotCarried, rfl⟩, sa_NotCarried, eC_NotCarried, tC_NotCarried, pC_NotCarried⟩, iC_NotCarried, iT_NotCarried, ga_NotCarried, gg_NotCarried, cl_NotCarried, hd_NotCarried, ic_NotCarried, ob_NotCarried⟩,
    c_Unlike := c_Unlike,
    f_Unlike_init := g_Unlike,
    fd_Unlike_init := _,
    F_Unlike_init := F_Unlike,
    b_Unlike_init := b_Unlike,
    m_Unlike := PySem.W.mg_of X G aC_Unlike,
    ex_Unlike := ⟨⟨⟨_, _, _, _, _, _, _, _, _, _, _, _, _, _, _, xL_Unlike, rfl⟩, sa_Unlike, eC_Unlike, tC_Unlike, pC_Unlike⟩, iC_Unlike, iT_Unlike, ga_Unlike, gg_Unlike, cl_Unlike, hd_Unlike, ic_Unlike, ob_Unlike⟩,
    c_OrError := cO,
    m_OrError := PySem.W.mg_of X G aO,
    Z := ⟨zg, zt⟩,
    tab := tabB_ok t1,
    tor := allB_ok t2,
    tve := allB_ok t3,
    tn1 := noneB_ok t4,
    tn2 := noneB_ok t5 }
  exact ⟨PySem.W.fnOf "law" "law" (defArgs s_law) (defBody s_law) (defScope s_law) .none kV10 dc10 pm10 an10 cd10 ct10, fun s v => .of_eq rfl, fun base _ _ => ok_law T⟩
end Toy
open PySem PySem.W PyProof.Rows
set_option maxRecDepth 100000 in
set_option maxHeartbeats 0 in
theorem PySem.Challenge.cw_orplaces_k01_errors_and_their_parts_holds : PySem.Challenge.rw_orplaces_k01_errors_and_their_parts.Holds := by
  w_on; o_law; k_headL; (case hw => w_witness2)
  k_fill
  refine Lx.walkG (l := PySem.Challenge.rw_orplaces_k01_errors_and_their_parts) (n := 63) (k := 4) (x := "_law_script") (sp := fun w => Toy.spLaw _) rfl (by decide) rfl ⟨rfl, by decide, by decide⟩ (fun w h Y => PySem.W.kIn_of Y) ?F (fun _ _ a ns hl _ hS => ⟨a, ns, rfl, hS, hl, fun _ => rfl⟩)
  case F =>
    intro w mg fa h KX G hmg
    refine' Toy.all_mk KX G hmg ?a1 ?l1 ?c1 ?k1 ?a2 ?l2 ?c2 ?k2 ?a3 ?l3 ?c3 ?k3 ?a4 ?l4 ?c4 ?k4 ?a5 ?l5 ?c5 ?k5 ?a6 ?l6 ?c6 ?k6 ?a7 ?l7 ?c7 ?k7 ?a8 ?l8 ?c8 ?k8 ?a9 ?l9 ?c9 ?k9 ?a10 ?l10 ?c10 ?k10 ?z_ArithmeticError ?z_IndexError ?z_KeyError ?z_LookupError ?z_OverflowError ?z_RuntimeError ?z_TypeError ?z_ValueError ?z_abs ?z_enumerate ?z_int ?z_isinstance ?z_len ?z_list ?z_range ?z_repr ?aO ?aC_InvalidName ?xL_InvalidName ?iC_InvalidName ?iT_InvalidName ?lC_InvalidName ?cC_InvalidName ?kC_InvalidName ?sa_InvalidName ?eC_InvalidName ?tC_InvalidName ?pC_InvalidName ?ga_InvalidName ?gg_InvalidName ?cl_InvalidName ?hd_InvalidName ?ic_InvalidName ?ob_InvalidName ?no_InvalidName_value ?aC_InvalidNumber ?xL_InvalidNumber ?iC_InvalidNumber ?iT_InvalidNumber ?lC_InvalidNumber ?cC_InvalidNumber ?kC_InvalidNumber ?sa_InvalidNumber ?eC_InvalidNumber ?tC_InvalidNumber ?pC_InvalidNumber ?ga_InvalidNumber ?gg_InvalidNumber ?cl_InvalidNumber ?hd_InvalidNumber ?ic_InvalidNumber ?ob_InvalidNumber ?no_InvalidNumber_value ?aC_InvalidRow ?xL_InvalidRow ?iC_InvalidRow ?iT_InvalidRow ?lC_InvalidRow ?cC_InvalidRow ?kC_InvalidRow ?sa_InvalidRow ?eC_InvalidRow ?tC_InvalidRow ?pC_InvalidRow ?ga_InvalidRow ?gg_InvalidRow ?cl_InvalidRow ?hd_InvalidRow ?ic_InvalidRow ?ob_InvalidRow ?no_InvalidRow_value ?aC_NoTarget ?xL_NoTarget ?iC_NoTarget ?iT_NoTarget ?lC_NoTarget ?cC_NoTarget ?kC_NoTarget ?sa_NoTarget ?eC_NoTarget ?tC_NoTarget ?pC_NoTarget ?ga_NoTarget ?gg_NoTarget ?cl_NoTarget ?hd_NoTarget ?ic_NoTarget ?ob_NoTarget ?no_NoTarget_value ?aC_NoClass ?xL_NoClass ?iC_NoClass ?iT_NoClass ?lC_NoClass ?cC_NoClass ?kC_NoClass ?sa_NoClass ?eC_NoClass ?tC_NoClass ?pC_NoClass ?ga_NoClass ?gg_NoClass ?cl_NoClass ?hd_NoClass ?ic_NoClass ?ob_NoClass ?no_NoClass_value ?aC_NoLanding ?xL_NoLanding ?iC_NoLanding ?iT_NoLanding ?lC_NoLanding ?cC_NoLanding ?kC_NoLanding ?sa_NoLanding ?eC_NoLanding ?tC_NoLanding ?pC_NoLanding ?ga_NoLanding ?gg_NoLanding ?cl_NoLanding ?hd_NoLanding ?ic_NoLanding ?ob_NoLanding ?no_NoLanding_value ?aC_InvalidRows ?xL_InvalidRows ?iC_InvalidRows ?iT_InvalidRows ?lC_InvalidRows ?cC_InvalidRows ?kC_InvalidRows ?sa_InvalidRows ?eC_InvalidRows ?tC_InvalidRows ?pC_InvalidRows ?ga_InvalidRows ?gg_InvalidRows ?cl_InvalidRows ?hd_InvalidRows ?ic_InvalidRows ?ob_InvalidRows ?no_InvalidRows_part ?aC_InvalidKind ?xL_InvalidKind ?iC_InvalidKind ?iT_InvalidKind ?lC_InvalidKind ?cC_InvalidKind ?kC_InvalidKind ?sa_InvalidKind ?eC_InvalidKind ?tC_InvalidKind ?pC_InvalidKind ?ga_InvalidKind ?gg_InvalidKind ?cl_InvalidKind ?hd_InvalidKind ?ic_InvalidKind ?ob_InvalidKind ?no_InvalidKind_part ?aC_InvalidFrame ?xL_InvalidFrame ?iC_InvalidFrame ?iT_InvalidFrame ?lC_InvalidFrame ?cC_InvalidFrame ?kC_InvalidFrame ?sa_InvalidFrame ?eC_InvalidFrame ?tC_InvalidFrame ?pC_InvalidFrame ?ga_InvalidFrame ?gg_InvalidFrame ?cl_InvalidFrame ?hd_InvalidFrame ?ic_InvalidFrame ?ob_InvalidFrame ?no_InvalidFrame_part ?aC_InvalidWord ?xL_InvalidWord ?iC_InvalidWord ?iT_InvalidWord ?lC_InvalidWord ?cC_InvalidWord ?kC_InvalidWord ?sa_InvalidWord ?eC_InvalidWord ?tC_InvalidWord ?pC_InvalidWord ?ga_InvalidWord ?gg_InvalidWord ?cl_InvalidWord ?hd_InvalidWord ?ic_InvalidWord ?ob_InvalidWord ?no_InvalidWord_part ?aC_NotReady ?xL_NotReady ?iC_NotReady ?iT_NotReady ?lC_NotReady ?cC_NotReady ?kC_NotReady ?sa_NotReady ?eC_NotReady ?tC_NotReady ?pC_NotReady ?ga_NotReady ?gg_NotReady ?cl_NotReady ?hd_NotReady ?ic_NotReady ?ob_NotReady ?no_NotReady_part ?aC_TooMany ?xL_TooMany ?iC_TooMany ?iT_TooMany ?lC_TooMany ?cC_TooMany ?kC_TooMany ?sa_TooMany ?eC_TooMany ?tC_TooMany ?pC_TooMany ?ga_TooMany ?gg_TooMany ?cl_TooMany ?hd_TooMany ?ic_TooMany ?ob_TooMany ?no_TooMany_part ?aC_InvalidAddress ?xL_InvalidAddress ?iC_InvalidAddress ?iT_InvalidAddress ?lC_InvalidAddress ?cC_InvalidAddress ?kC_InvalidAddress ?sa_InvalidAddress ?eC_InvalidAddress ?tC_InvalidAddress ?pC_InvalidAddress ?ga_InvalidAddress ?gg_InvalidAddress ?cl_InvalidAddress ?hd_InvalidAddress ?ic_InvalidAddress ?ob_InvalidAddress ?no_InvalidAddress_address ?aC_Locked ?xL_Locked ?iC_Locked ?iT_Locked ?lC_Locked ?cC_Locked ?kC_Locked ?sa_Locked ?eC_Locked ?tC_Locked ?pC_Locked ?ga_Locked ?gg_Locked ?cl_Locked ?hd_Locked ?ic_Locked ?ob_Locked ?no_Locked_address ?aC_Blank ?xL_Blank ?iC_Blank ?iT_Blank ?lC_Blank ?cC_Blank ?kC_Blank ?sa_Blank ?eC_Blank ?tC_Blank ?pC_Blank ?ga_Blank ?gg_Blank ?cl_Blank ?hd_Blank ?ic_Blank ?ob_Blank ?no_Blank_address ?aC_StateClash ?xL_StateClash ?iC_StateClash ?iT_StateClash ?lC_StateClash ?cC_StateClash ?kC_StateClash ?sa_StateClash ?eC_StateClash ?tC_StateClash ?pC_StateClash ?ga_StateClash ?gg_StateClash ?cl_StateClash ?hd_StateClash ?ic_StateClash ?ob_StateClash ?no_StateClash_name ?aC_NoCondition ?xL_NoCondition ?iC_NoCondition ?iT_NoCondition ?lC_NoCondition ?cC_NoCondition ?kC_NoCondition ?sa_NoCondition ?eC_NoCondition ?tC_NoCondition ?pC_NoCondition ?ga_NoCondition ?gg_NoCondition ?cl_NoCondition ?hd_NoCondition ?ic_NoCondition ?ob_NoCondition ?no_NoCondition_name ?aC_NoField ?xL_NoField ?iC_NoField ?iT_NoField ?lC_NoField ?cC_NoField ?kC_NoField ?sa_NoField ?eC_NoField ?tC_NoField ?pC_NoField ?ga_NoField ?gg_NoField ?cl_NoField ?hd_NoField ?ic_NoField ?ob_NoField ?no_NoField_name ?aC_NoKind ?xL_NoKind ?iC_NoKind ?iT_NoKind ?lC_NoKind ?cC_NoKind ?kC_NoKind ?sa_NoKind ?eC_NoKind ?tC_NoKind ?pC_NoKind ?ga_NoKind ?gg_NoKind ?cl_NoKind ?hd_NoKind ?ic_NoKind ?ob_NoKind ?no_NoKind_name ?aC_NoState ?xL_NoState ?iC_NoState ?iT_NoState ?lC_NoState ?cC_NoState ?kC_NoState ?sa_NoState ?eC_NoState ?tC_NoState ?pC_NoState ?ga_NoState ?gg_NoState ?cl_NoState ?hd_NoState ?ic_NoState ?ob_NoState ?no_NoState_name ?aC_Taken ?xL_Taken ?iC_Taken ?iT_Taken ?lC_Taken ?cC_Taken ?kC_Taken ?sa_Taken ?eC_Taken ?tC_Taken ?pC_Taken ?ga_Taken ?gg_Taken ?cl_Taken ?hd_Taken ?ic_Taken ?ob_Taken ?no_Taken_name ?aC_NotPossible ?xL_NotPossible ?iC_NotPossible ?iT_NotPossible ?lC_NotPossible ?cC_NotPossible ?kC_NotPossible ?sa_NotPossible ?eC_NotPossible ?tC_NotPossible ?pC_NotPossible ?ga_NotPossible ?gg_NotPossible ?cl_NotPossible ?hd_NotPossible ?ic_NotPossible ?ob_NotPossible ?no_NotPossible_row ?aC_NoCase ?xL_NoCase ?iC_NoCase ?iT_NoCase ?lC_NoCase ?cC_NoCase ?kC_NoCase ?sa_NoCase ?eC_NoCase ?tC_NoCase ?pC_NoCase ?ga_NoCase ?gg_NoCase ?cl_NoCase ?hd_NoCase ?ic_NoCase ?ob_NoCase ?no_NoCase_case ?aC_WrongCount ?xL_WrongCount ?iC_WrongCount ?iT_WrongCount ?lC_WrongCount ?cC_WrongCount ?kC_WrongCount ?sa_WrongCount ?eC_WrongCount ?tC_WrongCount ?pC_WrongCount ?ga_WrongCount ?gg_WrongCount ?cl_WrongCount ?hd_WrongCount ?ic_WrongCount ?ob_WrongCount ?no_WrongCount_wanted ?aC_TooLarge ?xL_TooLarge ?iC_TooLarge ?iT_TooLarge ?lC_TooLarge ?cC_TooLarge ?kC_TooLarge ?sa_TooLarge ?eC_TooLarge ?tC_TooLarge ?pC_TooLarge ?ga_TooLarge ?gg_TooLarge ?cl_TooLarge ?hd_TooLarge ?ic_TooLarge ?ob_TooLarge ?no_TooLarge_limit ?aC_InvalidText ?xL_InvalidText ?iC_InvalidText ?iT_InvalidText ?lC_InvalidText ?cC_InvalidText ?kC_InvalidText ?sa_InvalidText ?eC_InvalidText ?tC_InvalidText ?pC_InvalidText ?ga_InvalidText ?gg_InvalidText ?cl_InvalidText ?hd_InvalidText ?ic_InvalidText ?ob_InvalidText ?no_InvalidText_line ?no_InvalidText_word ?aC_FieldClash ?xL_FieldClash ?iC_FieldClash ?iT_FieldClash ?lC_FieldClash ?cC_FieldClash ?kC_FieldClash ?sa_FieldClash ?eC_FieldClash ?tC_FieldClash ?pC_FieldClash ?ga_FieldClash ?gg_FieldClash ?cl_FieldClash ?hd_FieldClash ?ic_FieldClash ?ob_FieldClash ?no_FieldClash_field ?no_FieldClash_one ?no_FieldClash_other ?aC_Clash ?xL_Clash ?iC_Clash ?iT_Clash ?lC_Clash ?cC_Clash ?kC_Clash ?sa_Clash ?eC_Clash ?tC_Clash ?pC_Clash ?ga_Clash ?gg_Clash ?cl_Clash ?hd_Clash ?ic_Clash ?ob_Clash ?no_Clash_lesser ?no_Clash_name ?aC_NoStates ?xL_NoStates ?iC_NoStates ?iT_NoStates ?lC_NoStates ?cC_NoStates ?kC_NoStates ?sa_NoStates ?eC_NoStates ?tC_NoStates ?pC_NoStates ?ga_NoStates ?gg_NoStates ?cl_NoStates ?hd_NoStates ?ic_NoStates ?ob_NoStates ?aC_NoEntries ?xL_NoEntries ?iC_NoEntries ?iT_NoEntries ?lC_NoEntries ?cC_NoEntries ?kC_NoEntries ?sa_NoEntries ?eC_NoEntries ?tC_NoEntries ?pC_NoEntries ?ga_NoEntries ?gg_NoEntries ?cl_NoEntries ?hd_NoEntries ?ic_NoEntries ?ob_NoEntries ?aC_NotEnd ?xL_NotEnd ?iC_NotEnd ?iT_NotEnd ?lC_NotEnd ?cC_NotEnd ?kC_NotEnd ?sa_NotEnd ?eC_NotEnd ?tC_NotEnd ?pC_NotEnd ?ga_NotEnd ?gg_NotEnd ?cl_NotEnd ?hd_NotEnd ?ic_NotEnd ?ob_NotEnd ?aC_NotCarried ?xL_NotCarried ?iC_NotCarried ?iT_NotCarried ?lC_NotCarried ?cC_NotCarried ?kC_NotCarried ?sa_NotCarried ?eC_NotCarried ?tC_NotCarried ?pC_NotCarried ?ga_NotCarried ?gg_NotCarried ?cl_NotCarried ?hd_NotCarried ?ic_NotCarried ?ob_NotCarried ?aC_Unlike ?xL_Unlike ?iC_Unlike ?iT_Unlike ?lC_Unlike ?cC_Unlike ?kC_Unlike ?sa_Unlike ?eC_Unlike ?tC_Unlike ?pC_Unlike ?ga_Unlike ?gg_Unlike ?cl_Unlike ?hd_Unlike ?ic_Unlike ?ob_Unlike ?zg ?zt ?t1 ?t2 ?t3 ?t4 ?t5
    (case a1 => k_is)
    (case l1 => k_is)
    (case c1 => k_is)
    (case k1 => k_is)
    (case a2 => k_is)
    (case l2 => k_is)
    (case c2 => k_is)
    (case k2 => k_is)
    (case a3 => k_is)
    (case l3 => k_is)
    (case c3 => k_is)
    (case k3 => k_is)
    (case a4 => k_is)
    (case l4 => k_is)
    (case c4 => k_is)
    (case k4 => k_is)
    (case a5 => k_is)
    (case l5 => k_is)
    (case c5 => k_is)
    (case k5 => k_is)
    (case a6 => k_is)
    (case l6 => k_is)
    (case c6 => k_is)
    (case k6 => k_is)
    (case a7 => k_is)
    (case l7 => k_is)
    (case c7 => k_is)
    (case k7 => k_is)
    (case a8 => k_is)
    (case l8 => k_is)
    (case c8 => k_is)
    (case k8 => k_is)
    (case a9 => k_is)
    (case l9 => k_is)
    (case c9 => k_is)
    (case k9 => k_is)
    (case a10 => k_is)
    (case l10 => k_is)
    (case c10 => k_is)
    (case k10 => k_is)
    (case z_ArithmeticError => k_is)
    (case z_IndexError => k_is)
    (case z_KeyError => k_is)
    (case z_LookupError => k_is)
    (case z_OverflowError => k_is)
    (case z_RuntimeError => k_is)
    (case z_TypeError => k_is)
    (case z_ValueError => k_is)
    (case z_abs => k_is)
    (case z_enumerate => k_is)
    (case z_int => k_is)
    (case z_isinstance => k_is)
    (case z_len => k_is)
    (case z_list => k_is)
    (case z_range => k_is)
    (case z_repr => k_is)
    (case aO => k_is)
    (case aC_InvalidName => k_is)
    (case xL_InvalidName => k_is)
    (case iC_InvalidName => k_is)
    (case iT_InvalidName => k_is)
    (case lC_InvalidName => k_is)
    (case cC_InvalidName => k_is)
    (case kC_InvalidName => k_is)
    (case sa_InvalidName => k_is)
    (case eC_InvalidName => k_is)
    (case tC_InvalidName => k_is)
    (case pC_InvalidName => k_is)
    (case ga_InvalidName => k_is)
    (case gg_InvalidName => k_is)
    (case cl_InvalidName => k_is)
    (case hd_InvalidName => k_is)
    (case ic_InvalidName => k_is)
    (case ob_InvalidName => k_is)
    (case no_InvalidName_value => k_is)
    (case aC_InvalidNumber => k_is)
    (case xL_InvalidNumber => k_is)
    (case iC_InvalidNumber => k_is)
    (case iT_InvalidNumber => k_is)
    (case lC_InvalidNumber => k_is)
    (case cC_InvalidNumber => k_is)
    (case kC_InvalidNumber => k_is)
    (case sa_InvalidNumber => k_is)
    (case eC_InvalidNumber => k_is)
    (case tC_InvalidNumber => k_is)
    (case pC_InvalidNumber => k_is)
    (case ga_InvalidNumber => k_is)
    (case gg_InvalidNumber => k_is)
    (case cl_InvalidNumber => k_is)
    (case hd_InvalidNumber => k_is)
    (case ic_InvalidNumber => k_is)
    (case ob_InvalidNumber => k_is)
    (case no_InvalidNumber_value => k_is)
    (case aC_InvalidRow => k_is)
    (case xL_InvalidRow => k_is)
    (case iC_InvalidRow => k_is)
    (case iT_InvalidRow => k_is)
    (case lC_InvalidRow => k_is)
    (case cC_InvalidRow => k_is)
    (case kC_InvalidRow => k_is)
    (case sa_InvalidRow => k_is)
    (case eC_InvalidRow => k_is)
    (case tC_InvalidRow => k_is)
    (case pC_InvalidRow => k_is)
    (case ga_InvalidRow => k_is)
    (case gg_InvalidRow => k_is)
    (case cl_InvalidRow => k_is)
    (case hd_InvalidRow => k_is)
    (case ic_InvalidRow => k_is)
    (case ob_InvalidRow => k_is)
    (case no_InvalidRow_value => k_is)
    (case aC_NoTarget => k_is)
    (case xL_NoTarget => k_is)
    (case iC_NoTarget => k_is)
    (case iT_NoTarget => k_is)
    (case lC_NoTarget => k_is)
    (case cC_NoTarget => k_is)
    (case kC_NoTarget => k_is)
    (case sa_NoTarget => k_is)
    (case eC_NoTarget => k_is)
    (case tC_NoTarget => k_is)
    (case pC_NoTarget => k_is)
    (case ga_NoTarget => k_is)
    (case gg_NoTarget => k_is)
    (case cl_NoTarget => k_is)
    (case hd_NoTarget => k_is)
    (case ic_NoTarget => k_is)
    (case ob_NoTarget => k_is)
    (case no_NoTarget_value => k_is)
    (case aC_NoClass => k_is)
    (case xL_NoClass => k_is)
    (case iC_NoClass => k_is)
    (case iT_NoClass => k_is)
    (case lC_NoClass => k_is)
    (case cC_NoClass => k_is)
    (case kC_NoClass => k_is)
    (case sa_NoClass => k_is)
    (case eC_NoClass => k_is)
    (case tC_NoClass => k_is)
    (case pC_NoClass => k_is)
    (case ga_NoClass => k_is)
    (case gg_NoClass => k_is)
    (case cl_NoClass => k_is)
    (case hd_NoClass => k_is)
    (case ic_NoClass => k_is)
    (case ob_NoClass => k_is)
    (case no_NoClass_value => k_is)
    (case aC_NoLanding => k_is)
    (case xL_NoLanding => k_is)
    (case iC_NoLanding => k_is)
    (case iT_NoLanding => k_is)
    (case lC_NoLanding => k_is)
    (case cC_NoLanding => k_is)
    (case kC_NoLanding => k_is)
    (case sa_NoLanding => k_is)
    (case eC_NoLanding => k_is)
    (case tC_NoLanding => k_is)
    (case pC_NoLanding => k_is)
    (case ga_NoLanding => k_is)
    (case gg_NoLanding => k_is)
    (case cl_NoLanding => k_is)
    (case hd_NoLanding => k_is)
    (case ic_NoLanding => k_is)
    (case ob_NoLanding => k_is)
    (case no_NoLanding_value => k_is)
    (case aC_InvalidRows => k_is)
    (case xL_InvalidRows => k_is)
    (case iC_InvalidRows => k_is)
    (case iT_InvalidRows => k_is)
    (case lC_InvalidRows => k_is)
    (case cC_InvalidRows => k_is)
    (case kC_InvalidRows => k_is)
    (case sa_InvalidRows => k_is)
    (case eC_InvalidRows => k_is)
    (case tC_InvalidRows => k_is)
    (case pC_InvalidRows => k_is)
    (case ga_InvalidRows => k_is)
    (case gg_InvalidRows => k_is)
    (case cl_InvalidRows => k_is)
    (case hd_InvalidRows => k_is)
    (case ic_InvalidRows => k_is)
    (case ob_InvalidRows => k_is)
    (case no_InvalidRows_part => k_is)
    (case aC_InvalidKind => k_is)
    (case xL_InvalidKind => k_is)
    (case iC_InvalidKind => k_is)
    (case iT_InvalidKind => k_is)
    (case lC_InvalidKind => k_is)
    (case cC_InvalidKind => k_is)
    (case kC_InvalidKind => k_is)
    (case sa_InvalidKind => k_is)
    (case eC_InvalidKind => k_is)
    (case tC_InvalidKind => k_is)
    (case pC_InvalidKind => k_is)
    (case ga_InvalidKind => k_is)
    (case gg_InvalidKind => k_is)
    (case cl_InvalidKind => k_is)
    (case hd_InvalidKind => k_is)
    (case ic_InvalidKind => k_is)
    (case ob_InvalidKind => k_is)
    (case no_InvalidKind_part => k_is)
    (case aC_InvalidFrame => k_is)
    (case xL_InvalidFrame => k_is)
    (case iC_InvalidFrame => k_is)
    (case iT_InvalidFrame => k_is)
    (case lC_InvalidFrame => k_is)
    (case cC_InvalidFrame => k_is)
    (case kC_InvalidFrame => k_is)
    (case sa_InvalidFrame => k_is)
    (case eC_InvalidFrame => k_is)
    (case tC_InvalidFrame => k_is)
    (case pC_InvalidFrame => k_is)
    (case ga_InvalidFrame => k_is)
    (case gg_InvalidFrame => k_is)
    (case cl_InvalidFrame => k_is)
    (case hd_InvalidFrame => k_is)
    (case ic_InvalidFrame => k_is)
    (case ob_InvalidFrame => k_is)
    (case no_InvalidFrame_part => k_is)
    (case aC_InvalidWord => k_is)
    (case xL_InvalidWord => k_is)
    (case iC_InvalidWord => k_is)
    (case iT_InvalidWord => k_is)
    (case lC_InvalidWord => k_is)
    (case cC_InvalidWord => k_is)
    (case kC_InvalidWord => k_is)
    (case sa_InvalidWord => k_is)
    (case eC_InvalidWord => k_is)
    (case tC_InvalidWord => k_is)
    (case pC_InvalidWord => k_is)
    (case ga_InvalidWord => k_is)
    (case gg_InvalidWord => k_is)
    (case cl_InvalidWord => k_is)
    (case hd_InvalidWord => k_is)
    (case ic_InvalidWord => k_is)
    (case ob_InvalidWord => k_is)
    (case no_InvalidWord_part => k_is)
    (case aC_NotReady => k_is)
    (case xL_NotReady => k_is)
    (case iC_NotReady => k_is)
    (case iT_NotReady => k_is)
    (case lC_NotReady => k_is)
    (case cC_NotReady => k_is)
    (case kC_NotReady => k_is)
    (case sa_NotReady => k_is)
    (case eC_NotReady => k_is)
    (case tC_NotReady => k_is)
    (case pC_NotReady => k_is)
    (case ga_NotReady => k_is)
    (case gg_NotReady => k_is)
    (case cl_NotReady => k_is)
    (case hd_NotReady => k_is)
    (case ic_NotReady => k_is)
    (case ob_NotReady => k_is)
    (case no_NotReady_part => k_is)
    (case aC_TooMany => k_is)
    (case xL_TooMany => k_is)
    (case iC_TooMany => k_is)
    (case iT_TooMany => k_is)
    (case lC_TooMany => k_is)
    (case cC_TooMany => k_is)
    (case kC_TooMany => k_is)
    (case sa_TooMany => k_is)
    (case eC_TooMany => k_is)
    (case tC_TooMany => k_is)
    (case pC_TooMany => k_is)
    (case ga_TooMany => k_is)
    (case gg_TooMany => k_is)
    (case cl_TooMany => k_is)
    (case hd_TooMany => k_is)
    (case ic_TooMany => k_is)
    (case ob_TooMany => k_is)
    (case no_TooMany_part => k_is)
    (case aC_InvalidAddress => k_is)
    (case xL_InvalidAddress => k_is)
    (case iC_InvalidAddress => k_is)
    (case iT_InvalidAddress => k_is)
    (case lC_InvalidAddress => k_is)
    (case cC_InvalidAddress => k_is)
    (case kC_InvalidAddress => k_is)
    (case sa_InvalidAddress => k_is)
    (case eC_InvalidAddress => k_is)
    (case tC_InvalidAddress => k_is)
    (case pC_InvalidAddress => k_is)
    (case ga_InvalidAddress => k_is)
    (case gg_InvalidAddress => k_is)
    (case cl_InvalidAddress => k_is)
    (case hd_InvalidAddress => k_is)
    (case ic_InvalidAddress => k_is)
    (case ob_InvalidAddress => k_is)
    (case no_InvalidAddress_address => k_is)
    (case aC_Locked => k_is)
    (case xL_Locked => k_is)
    (case iC_Locked => k_is)
    (case iT_Locked => k_is)
    (case lC_Locked => k_is)
    (case cC_Locked => k_is)
    (case kC_Locked => k_is)
    (case sa_Locked => k_is)
    (case eC_Locked => k_is)
    (case tC_Locked => k_is)
    (case pC_Locked => k_is)
    (case ga_Locked => k_is)
    (case gg_Locked => k_is)
    (case cl_Locked => k_is)
    (case hd_Locked => k_is)
    (case ic_Locked => k_is)
    (case ob_Locked => k_is)
    (case no_Locked_address => k_is)
    (case aC_Blank => k_is)
    (case xL_Blank => k_is)
    (case iC_Blank => k_is)
    (case iT_Blank => k_is)
    (case lC_Blank => k_is)
    (case cC_Blank => k_is)
    (case kC_Blank => k_is)
    (case sa_Blank => k_is)
    (case eC_Blank => k_is)
    (case tC_Blank => k_is)
    (case pC_Blank => k_is)
    (case ga_Blank => k_is)
    (case gg_Blank => k_is)
    (case cl_Blank => k_is)
    (case hd_Blank => k_is)
    (case ic_Blank => k_is)
    (case ob_Blank => k_is)
    (case no_Blank_address => k_is)
    (case aC_StateClash => k_is)
    (case xL_StateClash => k_is)
    (case iC_StateClash => k_is)
    (case iT_StateClash => k_is)
    (case lC_StateClash => k_is)
    (case cC_StateClash => k_is)
    (case kC_StateClash => k_is)
    (case sa_StateClash => k_is)
    (case eC_StateClash => k_is)
    (case tC_StateClash => k_is)
    (case pC_StateClash => k_is)
    (case ga_StateClash => k_is)
    (case gg_StateClash => k_is)
    (case cl_StateClash => k_is)
    (case hd_StateClash => k_is)
    (case ic_StateClash => k_is)
    (case ob_StateClash => k_is)
    (case no_StateClash_name => k_is)
    (case aC_NoCondition => k_is)
    (case xL_NoCondition => k_is)
    (case iC_NoCondition => k_is)
    (case iT_NoCondition => k_is)
    (case lC_NoCondition => k_is)
    (case cC_NoCondition => k_is)
    (case kC_NoCondition => k_is)
    (case sa_NoCondition => k_is)
    (case eC_NoCondition => k_is)
    (case tC_NoCondition => k_is)
    (case pC_NoCondition => k_is)
    (case ga_NoCondition => k_is)
    (case gg_NoCondition => k_is)
    (case cl_NoCondition => k_is)
    (case hd_NoCondition => k_is)
    (case ic_NoCondition => k_is)
    (case ob_NoCondition => k_is)
    (case no_NoCondition_name => k_is)
    (case aC_NoField => k_is)
    (case xL_NoField => k_is)
    (case iC_NoField => k_is)
    (case iT_NoField => k_is)
    (case lC_NoField => k_is)
    (case cC_NoField => k_is)
    (case kC_NoField => k_is)
    (case sa_NoField => k_is)
    (case eC_NoField => k_is)
    (case tC_NoField => k_is)
    (case pC_NoField => k_is)
    (case ga_NoField => k_is)
    (case gg_NoField => k_is)
    (case cl_NoField => k_is)
    (case hd_NoField => k_is)
    (case ic_NoField => k_is)
    (case ob_NoField => k_is)
    (case no_NoField_name => k_is)
    (case aC_NoKind => k_is)
    (case xL_NoKind => k_is)
    (case iC_NoKind => k_is)
    (case iT_NoKind => k_is)
    (case lC_NoKind => k_is)
    (case cC_NoKind => k_is)
    (case kC_NoKind => k_is)
    (case sa_NoKind => k_is)
    (case eC_NoKind => k_is)
    (case tC_NoKind => k_is)
    (case pC_NoKind => k_is)
    (case ga_NoKind => k_is)
    (case gg_NoKind => k_is)
    (case cl_NoKind => k_is)
    (case hd_NoKind => k_is)
    (case ic_NoKind => k_is)
    (case ob_NoKind => k_is)
    (case no_NoKind_name => k_is)
    (case aC_NoState => k_is)
    (case xL_NoState => k_is)
    (case iC_NoState => k_is)
    (case iT_NoState => k_is)
    (case lC_NoState => k_is)
    (case cC_NoState => k_is)
    (case kC_NoState => k_is)
    (case sa_NoState => k_is)
    (case eC_NoState => k_is)
    (case tC_NoState => k_is)
    (case pC_NoState => k_is)
    (case ga_NoState => k_is)
    (case gg_NoState => k_is)
    (case cl_NoState => k_is)
    (case hd_NoState => k_is)
    (case ic_NoState => k_is)
    (case ob_NoState => k_is)
    (case no_NoState_name => k_is)
    (case aC_Taken => k_is)
    (case xL_Taken => k_is)
    (case iC_Taken => k_is)
    (case iT_Taken => k_is)
    (case lC_Taken => k_is)
    (case cC_Taken => k_is)
    (case kC_Taken => k_is)
    (case sa_Taken => k_is)
    (case eC_Taken => k_is)
    (case tC_Taken => k_is)
    (case pC_Taken => k_is)
    (case ga_Taken => k_is)
    (case gg_Taken => k_is)
    (case cl_Taken => k_is)
    (case hd_Taken => k_is)
    (case ic_Taken => k_is)
    (case ob_Taken => k_is)
    (case no_Taken_name => k_is)
    (case aC_NotPossible => k_is)
    (case xL_NotPossible => k_is)
    (case iC_NotPossible => k_is)
    (case iT_NotPossible => k_is)
    (case lC_NotPossible => k_is)
    (case cC_NotPossible => k_is)
    (case kC_NotPossible => k_is)
    (case sa_NotPossible => k_is)
    (case eC_NotPossible => k_is)
    (case tC_NotPossible => k_is)
    (case pC_NotPossible => k_is)
    (case ga_NotPossible => k_is)
    (case gg_NotPossible => k_is)
    (case cl_NotPossible => k_is)
    (case hd_NotPossible => k_is)
    (case ic_NotPossible => k_is)
    (case ob_NotPossible => k_is)
    (case no_NotPossible_row => k_is)
    (case aC_NoCase => k_is)
    (case xL_NoCase => k_is)
    (case iC_NoCase => k_is)
    (case iT_NoCase => k_is)
    (case lC_NoCase => k_is)
    (case cC_NoCase => k_is)
    (case kC_NoCase => k_is)
    (case sa_NoCase => k_is)
    (case eC_NoCase => k_is)
    (case tC_NoCase => k_is)
    (case pC_NoCase => k_is)
    (case ga_NoCase => k_is)
    (case gg_NoCase => k_is)
    (case cl_NoCase => k_is)
    (case hd_NoCase => k_is)
    (case ic_NoCase => k_is)
    (case ob_NoCase => k_is)
    (case no_NoCase_case => k_is)
    (case aC_WrongCount => k_is)
    (case xL_WrongCount => k_is)
    (case iC_WrongCount => k_is)
    (case iT_WrongCount => k_is)
    (case lC_WrongCount => k_is)
    (case cC_WrongCount => k_is)
    (case kC_WrongCount => k_is)
    (case sa_WrongCount => k_is)
    (case eC_WrongCount => k_is)
    (case tC_WrongCount => k_is)
    (case pC_WrongCount => k_is)
    (case ga_WrongCount => k_is)
    (case gg_WrongCount => k_is)
    (case cl_WrongCount => k_is)
    (case hd_WrongCount => k_is)
    (case ic_WrongCount => k_is)
    (case ob_WrongCount => k_is)
    (case no_WrongCount_wanted => k_is)
    (case aC_TooLarge => k_is)
    (case xL_TooLarge => k_is)
    (case iC_TooLarge => k_is)
    (case iT_TooLarge => k_is)
    (case lC_TooLarge => k_is)
    (case cC_TooLarge => k_is)
    (case kC_TooLarge => k_is)
    (case sa_TooLarge => k_is)
    (case eC_TooLarge => k_is)
    (case tC_TooLarge => k_is)
    (case pC_TooLarge => k_is)
    (case ga_TooLarge => k_is)
    (case gg_TooLarge => k_is)
    (case cl_TooLarge => k_is)
    (case hd_TooLarge => k_is)
    (case ic_TooLarge => k_is)
    (case ob_TooLarge => k_is)
    (case no_TooLarge_limit => k_is)
    (case aC_InvalidText => k_is)
    (case xL_InvalidText => k_is)
    (case iC_InvalidText => k_is)
    (case iT_InvalidText => k_is)
    (case lC_InvalidText => k_is)
    (case cC_InvalidText => k_is)
    (case kC_InvalidText => k_is)
    (case sa_InvalidText => k_is)
    (case eC_InvalidText => k_is)
    (case tC_InvalidText => k_is)
    (case pC_InvalidText => k_is)
    (case ga_InvalidText => k_is)
    (case gg_InvalidText => k_is)
    (case cl_InvalidText => k_is)
    (case hd_InvalidText => k_is)
    (case ic_InvalidText => k_is)
    (case ob_InvalidText => k_is)
    (case no_InvalidText_line => k_is)
    (case no_InvalidText_word => k_is)
    (case aC_FieldClash => k_is)
    (case xL_FieldClash => k_is)
    (case iC_FieldClash => k_is)
    (case iT_FieldClash => k_is)
    (case lC_FieldClash => k_is)
    (case cC_FieldClash => k_is)
    (case kC_FieldClash => k_is)
    (case sa_FieldClash => k_is)
    (case eC_FieldClash => k_is)
    (case tC_FieldClash => k_is)
    (case pC_FieldClash => k_is)
    (case ga_FieldClash => k_is)
    (case gg_FieldClash => k_is)
    (case cl_FieldClash => k_is)
    (case hd_FieldClash => k_is)
    (case ic_FieldClash => k_is)
    (case ob_FieldClash => k_is)
    (case no_FieldClash_field => k_is)
    (case no_FieldClash_one => k_is)
    (case no_FieldClash_other => k_is)
    (case aC_Clash => k_is)
    (case xL_Clash => k_is)
    (case iC_Clash => k_is)
    (case iT_Clash => k_is)
    (case lC_Clash => k_is)
    (case cC_Clash => k_is)
    (case kC_Clash => k_is)
    (case sa_Clash => k_is)
    (case eC_Clash => k_is)
    (case tC_Clash => k_is)
    (case pC_Clash => k_is)
    (case ga_Clash => k_is)
    (case gg_Clash => k_is)
    (case cl_Clash => k_is)
    (case hd_Clash => k_is)
    (case ic_Clash => k_is)
    (case ob_Clash => k_is)
    (case no_Clash_lesser => k_is)
    (case no_Clash_name => k_is)
    (case aC_NoStates => k_is)
    (case xL_NoStates => k_is)
    (case iC_NoStates => k_is)
    (case iT_NoStates => k_is)
    (case lC_NoStates => k_is)
    (case cC_NoStates => k_is)
    (case kC_NoStates => k_is)
    (case sa_NoStates => k_is)
    (case eC_NoStates => k_is)
    (case tC_NoStates => k_is)
    (case pC_NoStates => k_is)
    (case ga_NoStates => k_is)
    (case gg_NoStates => k_is)
    (case cl_NoStates => k_is)
    (case hd_NoStates => k_is)
    (case ic_NoStates => k_is)
    (case ob_NoStates => k_is)
    (case aC_NoEntries => k_is)
    (case xL_NoEntries => k_is)
    (case iC_NoEntries => k_is)
    (case iT_NoEntries => k_is)
    (case lC_NoEntries => k_is)
    (case cC_NoEntries => k_is)
    (case kC_NoEntries => k_is)
    (case sa_NoEntries => k_is)
    (case eC_NoEntries => k_is)
    (case tC_NoEntries => k_is)
    (case pC_NoEntries => k_is)
    (case ga_NoEntries => k_is)
    (case gg_NoEntries => k_is)
    (case cl_NoEntries => k_is)
    (case hd_NoEntries => k_is)
    (case ic_NoEntries => k_is)
    (case ob_NoEntries => k_is)
    (case aC_NotEnd => k_is)
    (case xL_NotEnd => k_is)
    (case iC_NotEnd => k_is)
    (case iT_NotEnd => k_is)
    (case lC_NotEnd => k_is)
    (case cC_NotEnd => k_is)
    (case kC_NotEnd => k_is)
    (case sa_NotEnd => k_is)
    (case eC_NotEnd => k_is)
    (case tC_NotEnd => k_is)
    (case pC_NotEnd => k_is)
    (case ga_NotEnd => k_is)
    (case gg_NotEnd => k_is)
    (case cl_NotEnd => k_is)
    (case hd_NotEnd => k_is)
    (case ic_NotEnd => k_is)
    (case ob_NotEnd => k_is)
    (case aC_NotCarried => k_is)
    (case xL_NotCarried => k_is)
    (case iC_NotCarried => k_is)
    (case iT_NotCarried => k_is)
    (case lC_NotCarried => k_is)
    (case cC_NotCarried => k_is)
    (case kC_NotCarried => k_is)
    (case sa_NotCarried => k_is)
    (case eC_NotCarried => k_is)
    (case tC_NotCarried => k_is)
    (case pC_NotCarried => k_is)
    (case ga_NotCarried => k_is)
    (case gg_NotCarried => k_is)
    (case cl_NotCarried => k_is)
    (case hd_NotCarried => k_is)
    (case ic_NotCarried => k_is)
    (case ob_NotCarried => k_is)
    (case aC_Unlike => k_is)
    (case xL_Unlike => k_is)
    (case iC_Unlike => k_is)
    (case iT_Unlike => k_is)
    (case lC_Unlike => k_is)
    (case cC_Unlike => k_is)
    (case kC_Unlike => k_is)
    (case sa_Unlike => k_is)
    (case eC_Unlike => k_is)
    (case tC_Unlike => k_is)
    (case pC_Unlike => k_is)
    (case ga_Unlike => k_is)
    (case gg_Unlike => k_is)
    (case cl_Unlike => k_is)
    (case hd_Unlike => k_is)
    (case ic_Unlike => k_is)
    (case ob_Unlike => k_is)
    (case zg => k_is)
    (case zt => k_is)
    (case t1 => kernel_rfl)
    (case t2 => kernel_rfl)
    (case t3 => kernel_rfl)
    (case t4 => kernel_rfl)
    (case t5 => kernel_rfl)
