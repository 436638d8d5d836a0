import PyProof.Rows.All
import Wide.All
import OpenK.AllK
import Wide.FinOn
import PyProof.ReprRoads
import HandS.ForMost
import HandS.ForExc
import HandS.Wide
import HandS.IsInst
import HandS.ExcIs
import HandS.ExcValue
import HandS.RaiseMore
import HandS.FStr
import HandS.Set
import HandS.SetFor
import HandS.SortInts
import HandS.SetBool
import PyProof.StrLaws
import PySem.Challenge.RW_dimkeepers_k03_what_is_remembered
set_option Elab.async false
set_option linter.all false
set_option maxRecDepth 100000
set_option maxHeartbeats 8000000
/-! rules of my own: powers of great ints; defs that are called where nothing is being shown (so that repr runs); repr of data -/
namespace My
open PySem PySem.Spec PyProof.Rows L2
/-! ### powers -/
section
variable {X : Cx}
def PowFit (i j : Int) : Prop := 0 ≤ j ∧ (Builtin.Int.intBits i : Int) * j ≤ 2 ^ 27
theorem op_powW : OpR X (binaryOp .Pow) (rI PowFit fun i j => .int (i ^ j.toNat)) :=
  opI fun _ _ _ _ _ _ _ fit q => pow_int fit.1 fit.2 q
end
/-! ### a def's promise where nothing is being shown -/
structure FnG (P : Program) (w : World) (K : PySem.W.Frag) (mg : Str → Option Value) (base : Heap)
    (CX : CXT) (k : Nat) (f : Addr) (fd : FuncData) (ps : List Str) (sp : Sp) : Prop where
  arity : ∀ vs H Q E, sp vs H Q E → vs.length = ps.length
  go : ∀ (A : Around) (outer : List Env) (s : Shared) (H : Hp) (args : Args) (us : List Value) (vs : List V)
    (Q : VK) (E : XK), A.guards = some [] → Room k A → Env0 P w K mg base A outer s H →
    BindsTo s fd args (ps.zip us) → Vals vs us → sp vs H Q E →
    codeAny (model P w) A (.call (.ref f) args) (CR CX outer P w H s Q E) s
section
variable {P : Program} {w : World} {K : PySem.W.Frag} {mg : Str → Option Value} {base : Heap}
theorem okG {CX : CXT} {x qual : Str} {st : Stmt} {f : Addr} {fd : FuncData} {N ps : List Str} {k : Nat} {sp : Sp}
    (F : Fun K x qual st f fd) (S : FnScope N ps (defScope st))
    (arity : ∀ vs H Q E, sp vs H Q E → vs.length = ps.length)
    (body : ∀ (cdv : Value) (A : Around) (outer : List Env) (s : Shared) (H : Hp) (vs : List V) (Q : VK) (E : XK),
      A.guards = some [] → Room k (A.deeper (envOfC qual (defScope st) s.heap.objs.size f cdv)) → sp vs H Q E →
      ∃ t, PSs (cxOf CX P w K mg base N qual (defScope st) f cdv A outer s H E).nox (defBody st) t ∧
        t { nx := fun _ H' => Q .non H', rt := Q } (start N vs) H) :
    FnG P w K mg base CX (k + 1) f fd ps sp := by
  obtain ⟨oc, od, kV, doc, pm, an, cdv, ct, osl, rfl, lk, hcd⟩ := F.ex
  refine ⟨arity, fun A outer s H args us vs Q E gd room e0 bnd rv want => ?_⟩
  have al := arity _ _ _ _ want
  have stay : ∀ b o, base.get? b = some o → s.heap.get? b = some o := fun b o e => (e0.bs b o e).1
  have inK : K.In s.heap := e0.mod.kin.keeps stay
  have nolim : s.heap.NoLimit := e0.mod.nolimit.keeps stay
  have kinds : ∀ y ∈ ps.zip us, (defScope st).names.lookup y.1 = some .local ∨
      ((defScope st).names.lookup y.1 = some .cell ∧
        ((cellsFrom (s.heap.objs.size + 1) (defScope st).names []).lookup y.1).isSome = true) := by
    rintro ⟨n, v⟩ hy
    rcases S.par n (List.of_mem_zip hy).1 with q | q
    · exact .inl q
    · exact .inr ⟨q, PySem.W.cellsFrom_some _ _ _ (.inl q)⟩
  refine codeAny_call_function room.depth (inK _ _ lk) rfl S.co S.gen rfl
    (PySem.W.codeRec_of inK hcd) (bnd _ _ _ _ ?_)
  refine wpAny_newFunctionEnv_cells S.kind kinds fun env he s1 x => ?_
  subst he
  refine ⟨nolim.keeps x.toInCall.keep, codeAny_func ?_⟩
  obtain ⟨t, ht0, hq⟩ := body cdv A outer s H vs Q E gd (room.deeper _) want
  have ht := ht0.nox
  have I := inv_start (E := E) (CX := CX) S room.hd e0 al rv x
  refine wpAny_mono (ht.run [] s1 (start N vs) H _ I hq) (fun fl s' hs => ?_) fun e s' hs => hs
  cases fl with
  | ret u =>
    obtain ⟨v, σ', H', J, rv', q⟩ := hs
    exact ⟨v, H', J.os, J.bare, J.base, J.hok, rv', q⟩
  | next =>
    obtain ⟨σ', H', J, q⟩ := hs
    exact ⟨V.non, H', J.os, J.bare, J.base, J.hok, rfl, q⟩
  | brk => exact hs.elim fun _ z => z.elim fun _ z => z.2.elim
  | cont => exact hs.elim fun _ z => z.elim fun _ z => z.2.elim
end
/-! ### its call from such a def -/
section
variable {X : Cx} {CX : CXT} {k : Nat} {f : Addr} {fd : FuncData} {ps : List Str} {sp : Sp} {E : XK} {x : Str}
  {p pos : Pos} {e : Expr} {es : List Expr} {t : TA}
theorem run_fnG {pins : List (Addr × Obj)} {σ : L2.St} {H : Hp} {s : Shared} {Q : VK} {us : List Value} {vs : List V}
    (F : FnG X.prog X.w X.K X.mg X.base CX k f fd ps sp) (gd : X.A.guards = some []) (room : Room k X.A)
    (bnd : Binds X.K fd ps []) (pass : Passes CX X E) (I : Inv X pins σ H s) (r : Vals vs us) (h : sp vs H Q E) :
    wpAny (model X.prog X.w) X.A (call (.ref f) us) (EP X pins σ Q) X.xe s := by
  have al : (us ++ []).length = ps.length := by
    rw [List.append_nil, ← r.length]
    exact F.arity _ _ _ _ h
  have b := bnd s us I.kIn al
  rw [List.append_nil] at b
  refine wpAny_call (codeAny_mono (F.go X.A X.stack s H ⟨us, []⟩ us vs Q E gd room I.env0 b r h) fun out s' hq => ?_)
  rcases out with e | fl
  · exact pass pins σ H s e s' I hq
  · cases fl with
    | ret u => exact I.after hq
    | next => exact hq.elim
    | brk => exact hq.elim
    | cont => exact hq.elim
theorem pe_callG (F : FnG X.prog X.w X.K X.mg X.base CX k f fd ps sp) (gd : X.A.guards = some [])
    (room : Room k X.A) (hg : Gl X x) (hm : X.mg x = some (.ref f)) (kp : PySem.W.keepIn X.K (.ref f) = true)
    (bnd : Binds X.K fd ps []) (pass : Passes CX X E) (ha : PA X (e :: es) t)
    (hdb : (x == ("__debug__" : Str)) = false := by decide)
    (he : starEach (e :: es) X.env = (false, eval e X.env) :: starEach es X.env := by rfl)
    (hpl : (backTo pos (starEach es X.env)).any (·.1) = false := by rfl) :
    PE X (.Call (.Name x p) (e :: es) [] pos) (fun σ H Q => t σ H fun vs H1 => sp vs H1 Q E) := by
  refine ⟨fun pins s σ H Q I h => ?_⟩
  refine wpAny_Call_Name_kw (ld_glob I hg hm ?_ hdb)
  refine PySem.W.callWith_K (h₀ := X.base) I.ok.mod.kin kp ?_ he hpl
  refine thn (ha.run pos pins s σ H _ I h) fun us s1 z => ?_
  obtain ⟨vs, H1, I1, r, q⟩ := z
  exact ⟨I1.kIn, run_fnG F gd room bnd pass I1 r q⟩
end
/-! ### repr of a list or a tuple of data -/
section
variable {X : Cx}
def rRepr (K : PySem.W.Frag) : List V → Hp → VK → Prop := fun xs H Q => ∃ (a : Addr) (d : PyData),
  xs = [.ref a] ∧ Dp K H (.ref a) d ∧ d.showable = true ∧ d.hasDict = false ∧ d.depth ≤ 60 ∧
  d.shown.length ≤ sizeLine ∧ Q (.str d.shown) H
theorem call_repr (gd : X.A.guards = some []) (hu : X.A.units + 64 < cLine) :
    CallR X (.builtin "repr") (rRepr X.K) := by
  intro pins s σ H xs us Q I r h
  obtain ⟨a, d, rfl, hd, hs, hn, hp, hz, q⟩ := h
  obtain ⟨u, rfl, ru⟩ := vals1 r
  cases (show u = Value.ref a from ru)
  obtain ⟨as, R⟩ := Dp.reads I d (.ref a) (.ref a) hd rfl
  refine repr_of_reads' (h₀ := s.heap) R hs (PyData.noDict_hsm hn) gd (by omega) (fun _ _ e => e) ?_ hz
  exact fun h' t tk kept => ⟨.str d.shown, H, I.kept kept, ⟨t, rfl⟩, q⟩
end
/-! ### the law's own call -/
theorem law_callG {P : Program} {w : World} {K : PySem.W.Frag} {mg mb : Str → Option Value} {CX : CXT} {k : Nat}
    {fa a : Addr} {fd : FuncData} {x : Str} {sp : Sp} {s₁ : Shared} {vs : List Value} {ns : List Int}
    (inK : K.In s₁.heap) (hns : s₁.heap.Ns mainGlobals mg) (hb : s₁.heap.Ns builtinsNs mb)
    (hbb : ∀ x : Str, x ≠ "__name__" → mb x = bootBuiltins x) (hlim : s₁.heap.NoLimit) (hgen : s₁.gens = #[])
    (ha : s₁.heap.get? a = some { cls := .type "list", data := .seq vs.toArray }) (hi : IntsAre vs ns)
    (hl : ns.length ≤ sizeLine) (room : Room k callerA)
    (F : ∀ base : Heap, K.In base → base.Ns mainGlobals mg → FnG P w K mg base CX k fa fd [x] sp)
    (bnd : ∀ (s : Shared) (u : Value), BindsTo s fd ⟨[u], []⟩ [(x, u)])
    (hsp : ∀ H : Hp, Only H → SqL K H a (ns.map V.int) → sp [.ref a] H (fun v _ => v = .bl true) fun _ _ _ => False)
    (hCX : ∀ H e s', CX [] H s₁ (fun _ _ _ => False) e s' → False) :
    codeAny (model P w) callerA (.call (.ref fa) ⟨[.ref a], []⟩)
      (fun r s' => r = .ok (.ret (.bool true)) ∧ OldK s₁.heap s'.heap ∧ s'.os = s₁.os ∧ AllBare s'.gens) s₁ := by
  have rv := vals_ints hi
  have key : ∀ H : Hp, Only H → SqL K H a (ns.map V.int) → HOk P w H s₁.heap → (∀ b, H b ≠ none → b = a) →
      (H a ≠ none → K.lookup a = none) → codeAny (model P w) callerA (.call (.ref fa) ⟨[.ref a], []⟩)
        (fun r s' => r = .ok (.ret (.bool true)) ∧ OldK s₁.heap s'.heap ∧ s'.os = s₁.os ∧ AllBare s'.gens) s₁ := by
    intro H only sq ok one notK
    have at_a : ∀ {b : Addr} {u : HO}, H b = some u → b = a := fun {b u} q => one b fun z => by
      rw [q] at z
      cases z
    have plain : ∀ {b : Addr} {m : Str → Option Value}, s₁.heap.Ns b m → (hidT s₁.heap H).Ns b m := by
      rintro b m ⟨o, es, ep, e, d, r⟩
      refine ⟨o, es, ep, hidT_get e ?_, d, r⟩
      cases q : H b with
      | none => rfl
      | some u =>
        cases at_a q
        cases ha.symm.trans e
        have bad : Data.seq vs.toArray _ = Data.dict es ep := d
        cases bad
    have kb : K.In (hidT s₁.heap H) := fun b o e => hidT_get (inK b o e) (by
      cases q : H b with
      | none => rfl
      | some u =>
        cases at_a q
        have z := notK (by rw [q]; simp)
        rw [e] at z
        cases z)
    have md : Mod K mg (hidT s₁.heap H) :=
      ⟨kb, plain hns, ⟨mb, plain hb, hbb⟩, hlim.elim fun mc z => ⟨mc, plain z.1, z.2⟩⟩
    have e0 : Env0 P w K mg (hidT s₁.heap H) callerA [] s₁ H :=
      ⟨rfl, md, fun b o e => of_hidT e, Nat.le_of_eq (hidT_size _ _), trivial, (by intro b z; cases z), ok, .of_eq hgen⟩
    have run := (F _ kb (plain hns)).go callerA [] s₁ H ⟨[.ref a], []⟩ [.ref a] [.ref a] _ _ rfl room e0
      (bnd s₁ (.ref a)) (.cons rfl .nil) (hsp H only sq)
    refine codeAny_mono run fun out s' h => ?_
    rcases out with e | fl
    · exact (hCX H e s' h).elim
    · cases fl with
      | next => exact h.elim
      | brk => exact h.elim
      | cont => exact h.elim
      | ret u =>
        obtain ⟨v, H', os, bare, un, ok', r', q⟩ := h
        cases (show v = .bl true from q)
        cases (show u = Value.bool true from r')
        refine ⟨rfl, OldK.of_keep fun b o e => ?_, os, bare⟩
        rcases only b with z | ⟨ob, xs, z⟩
        · exact un.keep b o e z (by intro y; cases y) (by intro y; cases y)
        · have z2 := un.frzs b ob _ z
          obtain ⟨e1, _⟩ := ok b _ z
          obtain ⟨e2, _⟩ := ok' b _ z2
          rw [e] at e1
          cases e1
          exact e2
  cases hk : K.lookup a with
  | some o =>
    have e := inK a o hk
    rw [ha] at e
    cases e
    refine key (fun _ => none) (fun _ => .inl rfl) ?_ ?_ ?_ ?_
    · exact .inr ⟨_, vs.toArray, _, hk, rfl, rfl, rfl, by rw [List.size_toArray, hi.length]; exact hl, by simpa using rv⟩
    · intro b u z
      have z' : (none : Option HO) = some u := z
      cases z'
    · exact fun b z => absurd rfl z
    · exact fun z => absurd rfl z
  | none =>
    let ob : Obj := { cls := .type "list", data := .seq vs.toArray }
    let H : Hp := fun b => if b = a then some (.frz ob (.lst (ns.map V.int))) else none
    have here : H a = some (.frz ob (.lst (ns.map V.int))) := if_pos rfl
    have away : ∀ b, b ≠ a → H b = none := fun b z => if_neg z
    refine key H (fun b => ?_) (.inl (.inr ⟨ob, here⟩)) (fun b u z => ?_) (fun b z => ?_) fun _ => hk
    · by_cases hb : b = a
      · subst hb
        exact .inr ⟨_, _, here⟩
      · exact .inl (away b hb)
    · by_cases hb : b = a
      · subst hb
        rw [here] at z
        cases z
        exact ⟨ha, by rw [List.length_map]; exact hl, vs, _, rv, ha⟩
      · rw [away b hb] at z
        cases z
    · by_cases hb : b = a
      · exact hb
      · exact absurd (away b hb) z
theorem walk_ofG {l : PySem.W.OpenLaw} {n k : Nat} {q : Program} {loose : List Str} {XP : (Str → Option Value) → Heap → Prop}
    {YP : World → Heap → Prop} {d : DefRec} {K : Params → PySem.W.Frag} {CX : World → CXT} {sp : World → Sp} {x : Str}
    (hn : l.most = some n) (hn2 : n ≤ sizeLine) (hdf : d.params.defaults = []) (room : Room k callerA)
    (hY : ∀ (w : World) (h : Heap), YP w h → (K w.params).In h)
    (F : ∀ (w : World) (mg : Str → Option Value) (fa : Addr) (h : Heap), (K w.params).In h → h.Ns mainGlobals mg →
      mg d.name = some (.ref fa) → ∃ fd : FuncData, (∀ (s : Shared) (u : Value), BindsTo s fd ⟨[u], []⟩ [(x, u)]) ∧
        ∀ base : Heap, (K w.params).In base → base.Ns mainGlobals mg → FnG l.prog w (K w.params) mg base (CX w) k fa fd [x] (sp w))
    (hsp : ∀ (w : World) (H : Hp) (a : Addr) (ns : List Int), ns.length ≤ n → Only H → SqL (K w.params) H a (ns.map V.int) →
      sp w [.ref a] H (fun v _ => v = .bl true) fun _ _ _ => False)
    (hCX : ∀ (w : World) (H : Hp) (s : Shared) (e : Value) (s' : Shared), CX w [] H s (fun _ _ _ => False) e s' → False) :
    PySem.W.WalkO q loose XP YP l.row.toRowW d [] (fun f vs => PySem.call f vs) := by
  refine Att.attach_call hn hdf fun w s₀ s₁ mg mb fa o pm cd doc a vs ns G Y _ _ _ hmg hobj hints hlen hgen => ?_
  have kx := hY w _ Y
  obtain ⟨fd, bnd, hF⟩ := F w mg fa _ kx G.T.g hmg
  exact law_callG kx G.T.g G.T.b G.T.builtins G.T.nolimit hgen hobj hints (Nat.le_trans hlen hn2) room hF bnd
    (fun H only sq => hsp w H a ns hlen only sq) fun H e s' => hCX w H s₁ e s'
end My
/-! try: .. except (A, B, C) as e: caught = e: the error is held by a name behind the clause, and isinstance is asked of it there -/
namespace My
open PySem PySem.Spec PyProof.Rows L2
/-- an error of the class cls, caught, as an object that is tracked -/
def Err (cls : Value) (a : Addr) : HO :=
  .ext fun h => ∃ (oe : Obj) (vs : Array Value), h.get? a = some oe ∧ Zc cls none oe ∧ oe.data = .fields vs
theorem err_ok {P : Program} {w : World} {H : Hp} {h : Heap} {a : Addr} {cls : Value} {oe : Obj} {vs : Array Value}
    (e : h.get? a = some oe) (z : Zc cls none oe) (d : oe.data = .fields vs) : ObjOk P w H h a (Err cls a) :=
  ⟨⟨oe, vs, e, z, d⟩, ⟨oe, e⟩, fun _ _ ⟨o, v, q, r⟩ k => ⟨o, v, k o q, r⟩⟩
section
variable {X : Cx} {pins : List (Addr × Obj)} {σ : L2.St} {H : Hp} {s : Shared}
/-- an object of ours that was not tracked is tracked from now on -/
theorem track {a : Addr} {oe : Obj} {vs : Array Value} {cls : Value} (I : Inv X pins σ H s)
    (ha : s.heap.get? a = some oe) (hz : Zc cls none oe) (hd : oe.data = .fields vs) (na : H a = none)
    (new : X.s_0.heap.get? a = none) (nL : a ≠ X.env.locals) (np : ∀ p ∈ X.pn ++ pins, p.1 ≠ a) :
    Inv X pins σ (upd H a (Err cls a)) s := by
  have apart : ∀ {b : Addr} {o : HO}, H b = some o → b ≠ a := fun q => ne_of_none q na
  refine ⟨I.ok, I.os, I.bare, ?_, I.loc, I.cell, ?_, ?_, ?_, ?_, I.len⟩
  · refine ⟨I.base.keep, I.base.slot, fun b o e n x => ?_, I.base.there, fun b xs q => ?_, fun b o u q => ?_, fun b ps q => ?_⟩
    · have nb : b ≠ a := fun z => by
        rw [z, new] at e
        cases e
      rw [upd_ne nb]
      exact I.base.free b o e n x
    · have t := I.base.tups b xs q
      rw [upd_ne (apart t)]
      exact t
    · have t := I.base.frzs b o u q
      rw [upd_ne (apart t)]
      exact t
    · obtain ⟨more, t⟩ := I.base.tbls b ps q
      exact ⟨more, by rw [upd_ne (apart t)]; exact t⟩
  · rw [upd_ne nL.symm]
    exact I.free
  · intro x c e
    have nc : c ≠ a := fun z => by
      obtain ⟨v, ob, e1, e2⟩ := I.cell x c e
      rw [z, ha] at e1
      cases e1
      rw [hd] at e2
      cases e2
    rw [upd_ne nc]
    exact I.freeC x c e
  · intro p hp
    obtain ⟨e, n, ne, nf, d⟩ := I.pin p hp
    exact ⟨e, by rw [upd_ne (np p hp)]; exact n, ne, nf, d⟩
  · intro b u e
    by_cases hb : b = a
    · subst hb
      rw [upd_same] at e
      cases e
      exact err_ok ha hz hd
    · rw [upd_ne hb] at e
      refine (I.hok b u e).stay (fun c v _ q => q) (fun c q => ?_) fun c xs q => ?_
      · rw [upd_ne (apart q)]
        exact q
      · rw [upd_ne (apart q)]
        exact q
end
/-- what the clause wishes: the error is of one of the classes, has no dict of its own; slot j holds it behind, slot i is empty -/
def wKeep (K : PySem.W.Frag) (c1 c2 c3 : Addr) (i j : Nat) (D : Ends) : WX := fun cls d σ H =>
  d = none ∧ PySem.W.exmAny K cls [.ref c1, .ref c2, .ref c3] = some true ∧
  ∀ a, H a = none → D.nx (((σ.set i (some (.ref a))).set j (some (.ref a))).set i none) (upd H a (Err cls a))
theorem fly_keep {B h h' : Heap} {l : List Env} {a : Addr} {Z : Obj → Prop} (k : ∀ b o, h.get? b = some o → h'.get? b = some o)
    (f : HandSPX.FlyingZ B l a Z h) : HandSPX.FlyingZ B l a Z h' := by
  obtain ⟨f1, f2, f3, oe, vs, T, oT, ts, e1, z, d, v, bT, ne, e2, d2, t⟩ := f
  exact ⟨fun b o e => k b o (f1 b o e), f2, Heap.FunFrames.of_keeps (fun b o e _ => ⟨o, k b o e, rfl⟩) f3,
    oe, vs, T, oT, ts, k _ _ e1, z, d, v, bT, ne, k _ _ e2, d2, t⟩
/-- x of the module holds c -/
structure Glb (X : Cx) (x : Str) (c : Addr) : Prop where
  g : Gl X x
  m : X.mg x = some (.ref c)
  d : (x == ("__debug__" : Str)) = false
section
variable {X : Cx} {x1 x2 x3 n y : Str} {c1 c2 c3 : Addr} {i j : Nat} {body : List Stmt} {p1 p2 p3 pt pa py pn' pos pos' : Pos} {tb : WX → TS} {kk : Nat}
theorem ps_try_keep (hs : X.stack = X.env :: X.outer) (hf : X.env.frame = some X.env.locals) (hex : X.ex = [])
    (hN : X.N.Nodup) (hi : X.N[i]? = some n) (hj : X.N[j]? = some y) (hln : X.env.kindOf n = some .local)
    (hly : X.env.kindOf y = some .local) (G1 : Glb X x1 c1) (G2 : Glb X x2 c2) (G3 : Glb X x3 c3)
    (dn : (n == ("__debug__" : Str)) = false) (dc : (n == ("__classdict__" : Str)) = false)
    (sw : swapsWith (.Name n pn') (some (.Name y py)) pa.line X.env = pure false)
    (hb : ∀ (W : WX) (pn : List (Addr × Obj)) (xe : Value → Shared → Prop), Takes (X.tr pn xe) W →
      PassesOwn (model X.prog X.w) X.A X.env xe → PSs (X.tr pn xe) body (tb W)) :
    PS X (.Try body [.ExceptHandler (some (.Tuple [.Name x1 p1, .Name x2 p2, .Name x3 p3] kk pt)) (some n)
      [.Assign [.Name y py] (.Name n pn') pa] pos'] [] [] pos) (fun D σ H => tb (wKeep X.K c1 c2 c3 i j D) D σ H) := by
  refine ⟨fun pins s σ H D I h => ?_⟩
  have ok := I.ok
  have fr0 : X.A.frames = some (X.env :: X.outer) := by rw [ok.frames, hs]
  have locn : Loc X.env.scope n := .inl hln
  let hds : List ExceptHandler := [.ExceptHandler (some (.Tuple [.Name x1 p1, .Name x2 p2, .Name x3 p3] kk pt)) (some n)
      [.Assign [.Name y py] (.Name n pn') pa] pos']
  let M := model X.prog X.w
  let caught : Value → Shared → Prop := fun e s1 => wpAny M X.A (noteFrame e X.env) (fun _ s2 =>
    wpAny M X.A (setFlight e none) (fun _ s3 => wpAny M X.A (handleBy e X.env hds) (SP X pins D) X.xe s3) X.xe s2) X.xe s1
  have tk : Takes (X.tr (X.pn ++ pins) caught) (wKeep X.K c1 c2 c3 i j D) := by
    intro u s' xx
    obtain ⟨a, B, sI, pins', σ', H', cls, d, rfl, J', nb, up, sky, na, os, ag, rfl, any, yes⟩ := xx
    have J : Inv X pins σ' H' sI := J'.ofTry ok
    have sky' : Sky B (X.env :: X.outer) a (Zc cls none) X.env.locals s'.heap := by rw [← hs]; exact sky
    show wpAny M X.A (noteFrame (.ref a) X.env) _ _ _
    refine Sky.land Zc.steady fr0 hf sky' fun h3 fl3 up3 => ?_
    have J3 : Inv X pins σ' H' { s' with heap := h3 } := J.landed nb fl3.1 (up.trans up3) os ag
    obtain ⟨oe3, vs3, he3, hz3, hd3⟩ := fl3.there
    have nfr : a ∉ frs (X.env :: X.outer) := fun hm => by
      obtain ⟨_, o', e', bad⟩ := fl3.2.2.1.mem hm
      rw [he3] at e'
      cases e'
      exact bad _ hd3
    have nL : a ≠ X.env.locals := fun z => nfr (List.mem_filterMap.mpr ⟨X.env, List.mem_cons_self, by rw [hf, z]⟩)
    have nF : a ∉ X.fs := fun hm => by
      obtain ⟨e, he, q⟩ := List.mem_filterMap.mp hm
      exact nfr (List.mem_filterMap.mpr ⟨e, List.mem_cons_of_mem _ he, q⟩)
    have newI : sI.heap.get? a = none := by
      cases q : sI.heap.get? a with
      | none => rfl
      | some o =>
        have z := nb a o q (by rw [hs]; exact nfr)
        rw [fl3.2.1] at z
        cases z
    have new0 : X.s_0.heap.get? a = none := by
      cases q : X.s_0.heap.get? a with
      | none => rfl
      | some o =>
        obtain ⟨o', e'⟩ := J.base.there a o q (by rw [hex]; intro z; cases z)
        rw [newI] at e'
        cases e'
    have apart : ∀ p ∈ X.pn ++ pins, p.1 ≠ a := fun p hp z => by
      have e := (J.pin p hp).1
      rw [z, newI] at e
      cases e
    have S3 := J3.suite he3 hd3 na nL nF
    refine wpAny_handleBy_cons (codeAny_handlers_test ?_) (by intro q; cases q)
    refine wpAny_Tuple ?_
    refine wpAny_items_cons (ld_glob S3 G1.g G1.m ?_ G1.d)
    refine wpAny_items_cons (ld_glob S3 G2.g G2.m ?_ G2.d)
    refine wpAny_items_cons (ld_glob S3 G3.g G3.m ?_ G3.d)
    refine wpAny_items_nil ⟨(show 3 ≤ sizeLine by decide), ?_⟩
    let h4 : Heap := h3.push { cls := .type "tuple", data := .seq [Value.ref c1, .ref c2, .ref c3].toArray }
    have kp : ∀ b o, h3.get? b = some o → h4.get? b = some o := fun _ _ e => Heap.get?_push_of_some _ e
    have fl4 : HandSPX.FlyingZ B (X.env :: X.outer) a (Zc cls none) h4 := fly_keep kp fl3
    have up4 : sI.heap.UpToSlots h4 := (up.trans up3).trans (Heap.UpToSlots.of_keeps kp)
    have J4 : Inv X pins σ' H' { s' with heap := h4 } := J.landed nb fl4.1 up4 os ag
    have LT : PySem.W.Looks M h4 (typeOf (.ref a)) cls := fun A Q E s k q =>
      wpAny_typeOf_ref (k _ _ (kp _ _ he3)) (by rw [hz3.1]; exact q)
    have LM := PySem.W.exm_tup3 (M := M) J4.kIn LT (Heap.get?_push_size h3 rfl) any
    refine LM.here ?_
    refine codeAny_handlers_suite_as ?_
    refine HandSPX.lands_againZ fl4 fun h5 fl5 up5 => ?_
    have J5 : Inv X pins σ' H' { s' with heap := h5 } := J.landed nb fl5.1 (up4.trans up5) os ag
    obtain ⟨oe5, vs5, he5, hz5, hd5⟩ := fl5.there
    have S5 := J5.suite he5 hd5 na nL nF
    have lenN : X.N.length = σ'.length := J.len.symm
    refine store_ok (X := X.suite a ((a, oe5) :: (X.pn ++ pins))) (v := .ref a) S5 hN hi locn rfl (fun s6 S6 => ?_) (.inr hln)
    have lti : i < σ'.length := by
      rw [← lenN]
      exact (List.getElem?_eq_some_iff.mp hi).1
    have got : (σ'.set i (some (V.ref a)))[i]? = some (some (V.ref a)) := by rw [List.getElem?_set_self lti]
    let D' : Ends := { nx := fun σ2 H2 => σ2 = (σ'.set i (some (.ref a))).set j (some (.ref a)) ∧ H2 = H', rt := fun _ _ => False, bk := fun _ _ => False, ct := fun _ _ => False }
    have suite : PSs (X.suite a ((a, oe5) :: (X.pn ++ pins))) [.Assign [.Name y py] (.Name n pn') pa] (tAsg (tVar i) (gName j)) :=
      pss_one (ps_set (i := j) hN hj (.inl hly) (pe_var hi (.inl hln) dn dc) sw (.inr hly))
    refine wpAny_mono (suite.run [] s6 _ H' D' S6 ⟨_, got, rfl, rfl⟩) (fun f s7 hsp => ?_) (fun _ _ z => False.elim z)
    cases f with
    | brk => exact hsp.elim fun _ z => z.elim fun _ z => z.2.elim
    | cont => exact hsp.elim fun _ z => z.elim fun _ z => z.2.elim
    | ret u => exact hsp.elim fun _ z => z.elim fun _ z => z.elim fun _ z => z.2.2.elim
    | next =>
      obtain ⟨σ7, H7, S7, e7, eH⟩ := hsp
      subst e7
      subst H7
      have keepP : ∀ p ∈ X.pn ++ ((a, oe5) :: pins), s7.heap.get? p.1 = some p.2 ∧ H' p.1 = none ∧ p.1 ≠ X.env.locals ∧ p.1 ∉ X.fs ∧ ∀ v, p.2.data ≠ .cell v := by
        intro p hp
        refine S7.pin p (List.mem_append_left _ ?_)
        rcases List.mem_append.mp hp with z | z
        · exact List.mem_cons_of_mem _ (List.mem_append_left _ z)
        · rcases List.mem_cons.mp z with z | z
          · rw [z]
            exact List.mem_cons_self
          · exact List.mem_cons_of_mem _ (List.mem_append_right _ z)
      have J7 : Inv X ((a, oe5) :: pins) ((σ'.set i (some (.ref a))).set j (some (.ref a))) H' s7 :=
        ⟨ok, S7.os, S7.bare, S7.base, S7.loc, S7.cell, S7.free, S7.freeC, keepP, S7.hok, S7.len⟩
      refine gone_ok J7 hN hi hln fun s8 J8 => ?_
      obtain ⟨e8, n8, _, _, _⟩ := J8.pin (a, oe5) (List.mem_append_right _ List.mem_cons_self)
      have J9 : Inv X pins (((σ'.set i (some (.ref a))).set j (some (.ref a))).set i none) H' s8 :=
        ⟨ok, J8.os, J8.bare, J8.base, J8.loc, J8.cell, J8.free, J8.freeC, fun p hp => J8.pin p (by
          rcases List.mem_append.mp hp with z | z
          · exact List.mem_append_left _ z
          · exact List.mem_append_right _ (List.mem_cons_of_mem _ z)), J8.hok, J8.len⟩
      exact ⟨_, _, track J9 e8 hz5 hd5 na new0 nL apart, yes a na⟩
  refine wpAny_Try_except ?_
  refine wpAny_mono ((hb (wKeep X.K c1 c2 c3 i j D) (X.pn ++ pins) caught tk PassesOwn.looking).run [] s σ H D (I.toTry _) h) (fun f s1 hsp => ?_) (fun e s1 he => he)
  cases f with
  | next => exact wpAny_execs_nil (hsp.elim fun σ' z => z.elim fun H' z => ⟨σ', H', z.1.ofTry ok, z.2⟩)
  | brk => exact hsp.elim fun σ' z => z.elim fun H' z => ⟨σ', H', z.1.ofTry ok, z.2⟩
  | cont => exact hsp.elim fun σ' z => z.elim fun H' z => ⟨σ', H', z.1.ofTry ok, z.2⟩
  | ret u =>
    obtain ⟨v, σ', H', J, r, q⟩ := hsp
    exact ⟨v, σ', H', J.ofTry ok, r, q⟩
end
end My
/-! isinstance of a caught error that a name holds -/
namespace My
open PySem PySem.Spec PyProof.Rows L2
section
variable {X : Cx}
theorem err_inst {pins : List (Addr × Obj)} {σ : L2.St} {H : Hp} {s : Shared} {a D : Addr} (I : Inv X pins σ H s)
    (h : H a = some (Err (.ref D) a)) : ∃ oe, PySem.W.InstAt s.heap a oe D none := by
  obtain ⟨⟨oe, vs, e, z, d⟩, _⟩ := I.hok a _ h
  obtain ⟨oc, od, da, sl⟩ := oe
  obtain ⟨z1, z2⟩ := z
  dsimp only at z1 z2 d
  subst z1 z2 d
  exact ⟨_, e, rfl, rfl, trivial⟩
def rIsErr (K : PySem.W.Frag) : List V → Hp → VK → Prop := fun xs H Q => ∃ (a D : Addr) (c : V) (cv : Value) (b : Bool),
  xs = [.ref a, c] ∧ H a = some (Err (.ref D) a) ∧ ExcC K D ∧ ClsV c cv ∧ PySem.W.kitOne K (.ref D) cv = some b ∧ Q (.bl b) H
theorem call_isErr : CallR X (.builtin "isinstance") (rIsErr X.K) := by
  intro pins s σ H xs us Q I r h
  obtain ⟨a, D, c, cv, b, rfl, ha, C, kc, e, q⟩ := h
  obtain ⟨u1, u2, rfl, r1, r2⟩ := vals2 r
  cases (show u1 = Value.ref a from r1)
  have e2 := kc.eq r2
  subst e2
  obtain ⟨oe, J⟩ := err_inst I ha
  exact PySem.W.kia_one (PySem.W.handS_kitx_exc C.hg C.hk C.hs C.hd C.ha C.hn C.ht C.hm) I.kIn J e (fun z => nomatch z)
    fun tk => ⟨.bl b, H, I.tok tk, rfl, q⟩
def rIsErrT (K : PySem.W.Frag) : List V → Hp → VK → Prop := fun xs H Q => ∃ (a D tp : Addr) (cs : List V) (us : List Value) (b : Bool),
  xs = [.ref a, .ref tp] ∧ H a = some (Err (.ref D) a) ∧ ExcC K D ∧ H tp = some (.tup cs) ∧ Paired ClsV cs us ∧
  PySem.W.kitAny K (.ref D) us = some b ∧ Q (.bl b) H
theorem call_isErrT : CallR X (.builtin "isinstance") (rIsErrT X.K) := by
  intro pins s σ H xs us Q I r h
  obtain ⟨a, D, tp, cs, ws, b, rfl, ha, C, hT, kc, e, q⟩ := h
  obtain ⟨u1, u2, rfl, r1, r2⟩ := vals2 r
  cases (show u1 = Value.ref a from r1)
  cases (show u2 = Value.ref tp from r2)
  obtain ⟨oe, J⟩ := err_inst I ha
  obtain ⟨_, its, rv, o, h1, h2, n, h3⟩ := (show ObjOk X.prog X.w H s.heap tp (.tup cs) from I.hok tp _ hT)
  have e3 := ClsV.all kc rv
  subst e3
  obtain ⟨oc, od, dt, sl⟩ := o
  dsimp only at h2 h3
  subst h2 h3
  exact PySem.W.kia_tup (PySem.W.handS_kitx_exc C.hg C.hk C.hs C.hd C.ha C.hn C.ht C.hm) I.kIn J h1 e (fun z => nomatch z)
    fun tk => ⟨.bl b, H, I.tok tk, rfl, q⟩
end
theorem kit_own {K : PySem.W.Frag} {D C : Addr} {b : Bool} (ne : (Value.ref D == Value.ref C) = false) (h1 : PySem.W.isClsIn K C = true)
    (h2 : PySem.W.typeIn K (.ref C) = some (.type "type")) (h3 : PySem.W.subIn K (.ref D) (.ref C) = some b) :
    PySem.W.kitOne K (.ref D) (.ref C) = some b := by
  have e : ((PySem.W.clsIn K C).isSome && PySem.W.typeIn K (.ref C) == some (.type "type")) = true := by
    have z : (PySem.W.clsIn K C).isSome = true := h1
    rw [z, h2] <;> rfl
  unfold PySem.W.kitOne
  rw [ne, if_neg Bool.false_ne_true]
  show (if _ then _ else _) = _
  rw [if_pos e]
  exact h3
theorem kit_self {K : PySem.W.Frag} {D : Addr} : PySem.W.kitOne K (.ref D) (.ref D) = some true := if_pos (beq_self_eq_true _)
theorem kit_typ {K : PySem.W.Frag} {D : Addr} {T : String} {b : Bool} (h : PySem.W.kitMeta T = true)
    (h3 : PySem.W.subIn K (.ref D) (.type T) = some b) : PySem.W.kitOne K (.ref D) (.type T) = some b := by
  have ne : (Value.ref D == Value.type T) = false := rfl
  unfold PySem.W.kitOne
  rw [ne, if_neg Bool.false_ne_true]
  show (if _ then _ else _) = _
  rw [if_pos h]
  exact h3
end My
/-! rules whose reading names the written part, said with a letter for it (within a comprehension's element) -/
namespace My
open PySem PySem.Spec PyProof.Rows L2
section
variable {X : Cx} {K : PySem.W.Frag}
theorem ix_listK (e : X.K = K) : IxR X (rIxL K) := e ▸ ix_list
theorem ix_tupK (e : X.K = K) : IxR X (rIxT K) := e ▸ ix_tup
theorem sl_listK (e : X.K = K) : SlR X (rSlL K) := e ▸ sl_list
theorem sl_tupK (e : X.K = K) : SlR X (rSlT K) := e ▸ sl_tup
def rLenSeq (K : PySem.W.Frag) : List V → Hp → VK → Prop := fun xs H Q => ∃ p ys, xs = [.ref p] ∧ (SqL K H p ys ∨ SqT K H p ys) ∧ Q (.int ys.length) H
theorem len_seqK (e : X.K = K) : CallR X (.builtin "len") (rLenSeq K) := e ▸ call_len_seq
def rListOf (K : PySem.W.Frag) : List V → Hp → VK → Prop := fun xs H Q => ∃ p ys, xs = [.ref p] ∧ (SqL K H p ys ∨ SqT K H p ys) ∧ ∀ l, H l = none → Q (.ref l) (upd H l (.lst ys))
theorem list_ofK (e : X.K = K) : CallR X (.type "list") (rListOf K) := e ▸ call_list_of
theorem in_seqK (e : X.K = K) : OpR X (compareOp .In) (rIn K false) := e ▸ op_in_seq
theorem notIn_seqK (e : X.K = K) : OpR X (compareOp .NotIn) (rIn K true) := e ▸ op_notIn_seq
theorem eqDK (e : X.K = K) (hu : X.A.units + 64 < cLine) : OpR X (compareOp .Eq) (rEqD K) := e ▸ op_eqD hu
theorem neDK (e : X.K = K) (hu : X.A.units + 64 < cLine) : OpR X (compareOp .NotEq) (rNeD K) := e ▸ op_neD hu
theorem ps_nox {st : Stmt} {t : TS} (h : PS X.nox st t) : PS X st t := ⟨fun pins s σ H D I hw =>
  wpAny_mono (h.run pins s σ H D (I.wish _) hw) (fun f s' q => q.unwish) fun _ _ z => False.elim z⟩
theorem pe_K {T : String} {r : V → List V → Hp → VK → Prop} {to : TE} {t : TA} {ex : Expr} (e : X.K = K) (h : PE X ex (tBM X.K T r to t)) : PE X ex (tBM K T r to t) := e ▸ h
theorem pe_K0 {T : String} {r : V → List V → Hp → VK → Prop} {to : TE} {ex : Expr} (e : X.K = K) (h : PE X ex (tBM0 X.K T r to)) : PE X ex (tBM0 K T r to) := e ▸ h
theorem pi_listK {tg l : Expr} {tl : TE} (e : X.K = K) (h : PE X l tl) : PI X tg l (iList K tl) := e ▸ pi_list h
end
end My
/-! sets of texts whose walk is known, as far as its order goes: add -/
namespace My
open PySem PySem.Spec PyProof.Rows L2
def keyS (e : Int × Value) : Str := match e.2 with
  | .str x _ => x
  | _ => Str.empty
def GoodS (w : World) (e : Int × Value) : Prop := ∃ x t, e.2 = Value.str x t ∧ e.1 = hashStr w x
/-- at a stands a set of just the texts xs -/
structure SetT (w : World) (h : Heap) (a : Addr) (xs : List Str) : Prop where
  nd : xs.Nodup
  at_ : ∃ o es ep t, h.get? a = some o ∧ o.ExactSet ∧ o.data = .set es ep t ∧ (∀ e ∈ es.toList, GoodS w e) ∧
    (es.toList.map keyS).Perm xs ∧ es.size < scanBound ∧ t.fits es.size = true ∧ Ris t.place.toList ∧
    (w.params.followText "set-order" = true ∨ t.led = true)
section
variable {P : Program} {w : World} {A : Around} {E : Value → Shared → Prop} {s : Shared} {a : Addr} {xs : List Str}
theorem SetT.keep {h h' : Heap} (R : SetT w h a xs) (k : ∀ o, h.get? a = some o → h'.get? a = some o) : SetT w h' a xs := by
  obtain ⟨nd, o, es, ep, t, ho, r⟩ := R
  exact ⟨nd, o, es, ep, t, k o ho, r⟩
theorem goodS_elems {l : List (Int × Value)} (g : ∀ e ∈ l, GoodS w e) : ElemsOf (strKind P w) l := fun e he => by
  obtain ⟨x, t, h1, h2⟩ := g e he
  exact ⟨⟨x, by rw [h1]; exact strKind_is P w x t, h2⟩, by rw [h1]; rfl⟩
theorem goodS_is {e : Int × Value} (g : GoodS w e) (k : Str) : (strKind P w).is k e.2 = true ↔ keyS e = k := by
  obtain ⟨x, t, h1, _⟩ := g
  unfold keyS
  rw [h1]
  constructor
  · intro h
    have h' : Value.isStrOf k (.str x t) = true := h
    obtain ⟨u, hu⟩ := Value.isStrOf_shape h'
    cases hu
    rfl
  · rintro rfl
    exact strKind_is P w x t
theorem SetT.setOf (R : SetT w s.heap a xs) : s.heap.SetOf (strKind P w) a (fun k => decide (k ∈ xs)) xs.length := by
  obtain ⟨nd, o, es, ep, t, ho, hx, hd, g, pm, hb, hf, _⟩ := R
  refine ⟨o, es, ep, t, ho, hx, hd, goodS_elems g, fun k => ?_, hb, hf, ?_⟩
  · rw [decide_eq_true_eq, ← pm.mem_iff, List.mem_map]
    constructor
    · rintro ⟨e, he, q⟩
      exact ⟨e, he, (goodS_is (g e he) k).2 q⟩
    · rintro ⟨e, he, q⟩
      exact ⟨e, he, (goodS_is (g e he) k).1 q⟩
  · rw [← pm.length_eq, List.length_map, Array.length_toList]
/-- the state behind a store into the set's object -/
theorem storeS_at {h : Heap} {o : Obj} {es es' : Array (Int × Value)} {ep : Nat} {t t' : SetTable} (ho : h.get? a = some o) (hd : o.data = .set es ep t) :
    (h.update a (Obj.putSet es' t')).get? a = some { o with data := .set es' (ep + 1) t' } := L2.store_at ho hd
theorem tailS {give : Bool → Sem Unit} (hg : ∀ (b : Bool) (s₁ : Shared) (Q' : Unit → Shared → Prop), Q' () s₁ → wpAny (model P w) A (give b) Q' E s₁)
    {o : Obj} {es : Array (Int × Value)} {ep : Nat} {t : SetTable} (ho : s.heap.get? a = some o) (hex : o.ExactSet) (hd : o.data = .set es ep t)
    {es1 : Array (Int × Value)} {t2 : SetTable} {ys : List Str} (nd : ys.Nodup) (g1 : ∀ e ∈ es1.toList, GoodS w e) (pm1 : (es1.toList.map keyS).Perm ys)
    (hb1 : es1.size < scanBound) (hf2 : t2.fits es1.size = true) (hr : Ris t2.place.toList)
    (hl : w.params.followText "set-order" = true ∨ t2.led = true) {dummy : Bool} {R : Option Bool → Shared → Prop}
    (hR : ∀ h', Heap.SameBut a s.heap h' → SetT w h' a ys → R (some true) { s with heap := h' }) :
    wpAny (model P w) A (do
        storeSet a es1 t2
        if (!dummy && t2.tooFull) = true then do
            give (relayAll t2 es1 (SetTable.grown es1.size)).2.2
            storeSet a (relayAll t2 es1 (SetTable.grown es1.size)).1 (relayAll t2 es1 (SetTable.grown es1.size)).2.1
            pure (some true)
          else pure (some true)) R E s := by
  have first : (s.heap.update a (Obj.putSet es1 t2)).get? a = some { o with data := .set es1 (ep + 1) t2 } := storeS_at ho hd
  have b1 : Heap.SameBut a s.heap (s.heap.update a (Obj.putSet es1 t2)) := Heap.SameBut.update s.heap a (Obj.putSet es1 t2)
  refine wpAny_bind (wpAny_storeSet_of ho hd ?_ (fits_of_scanBound hb1))
  by_cases full : (!dummy && t2.tooFull) = true
  · rw [if_pos full]
    have pm := relayAll_perm t2 es1 (SetTable.grown es1.size)
    have hf3 := relayAll_fits t2 es1 (SetTable.grown es1.size)
    have hr3 := relayAll_ris t2 es1 (SetTable.grown es1.size)
    have hl3 := relayAll_led t2 es1 (SetTable.grown es1.size)
    revert pm hf3 hr3 hl3
    generalize relayAll t2 es1 (SetTable.grown es1.size) = Z
    obtain ⟨es2, t3, gv⟩ := Z
    intro pm hf3 hr3 hl3
    dsimp only at pm hf3 hr3 hl3 ⊢
    have sz : es2.size = es1.size := by
      rw [← Array.length_toList, ← Array.length_toList]
      exact pm.length_eq
    have hb2 : es2.size < scanBound := by rw [sz]; exact hb1
    refine wpAny_bind (hg _ _ _ ?_)
    refine wpAny_bind (wpAny_storeSet_of first rfl ?_ (fits_of_scanBound hb2))
    refine wpAny_pure (hR _ (b1.trans (Heap.SameBut.update _ a _)) ?_)
    refine ⟨nd, _, es2, _, t3, storeS_at first rfl, hex, rfl, fun e he => g1 e (pm.mem_iff.mp he), (pm.map keyS).trans pm1, hb2, hf3, hr3, ?_⟩
    rcases hl with z | z
    · exact .inl z
    · exact .inr (by rw [← z]; exact hl3)
  · rw [if_neg full]
    exact wpAny_pure (hR _ b1 ⟨nd, _, es1, _, t2, first, hex, rfl, g1, pm1, hb1, hf2, hr, hl⟩)
/-- the set with x -/
def withT (xs : List Str) (x : Str) : List Str := if x ∈ xs then xs else xs ++ [x]
theorem withT_nd {xs : List Str} {x : Str} (h : xs.Nodup) : (withT xs x).Nodup := by
  unfold withT
  split
  · exact h
  · rename_i n
    exact List.nodup_append.mpr ⟨h, List.nodup_cons.mpr ⟨by simp, List.nodup_nil⟩, fun a ha b hb => by
      cases List.mem_singleton.mp hb
      exact fun z => n (z ▸ ha)⟩
theorem addS_hashed {x : Str} {tk : Tok} {Q : Bool → Shared → Prop} (R : SetT w s.heap a xs) (room : xs.length + 1 < scanBound)
    (hQ : ∀ (b : Bool) h', Heap.SameBut a s.heap h' → SetT w h' a (withT xs x) → Q b { s with heap := h' }) :
    wpAny (model P w) A (setAddHashed a (.str x tk) ((strKind P w).hash x)) Q E s := by
  obtain ⟨nd, o, es, ep, t, ho, hex, hd, g, pmx, hb, hf, hr, hl⟩ := R
  have key : (strKind P w).is x (.str x tk) = true := strKind_is P w x tk
  have sc : (Value.str x tk).scannable = true := rfl
  have elems : ElemsOf (strKind P w) es.toList := goodS_elems g
  unfold setAddHashed setAddHashedIn
  refine wpAny_holding (wpAny_bind (wpAny_setState_of ho hd hf ?_))
  dsimp only
  rw [byScan_of sc hb elems]
  simp only [↓reduceIte]
  unfold setAddByScan
  refine wpAny_bind (wpAny_bind (wpAny_rule (wpAny_bind (wpAny_setScan_of key ho hd hf elems ?_))))
  cases found : List.findIdx? (fun e => (strKind P w).is x e.2) es.toList with
  | some j =>
    obtain ⟨hj, pj, _⟩ := List.findIdx?_eq_some_iff_getElem.mp found
    have mem : x ∈ xs := by
      rw [← pmx.mem_iff, List.mem_map]
      exact ⟨_, List.getElem_mem hj, (goodS_is (g _ (List.getElem_mem hj)) x).1 pj⟩
    dsimp only
    refine wpAny_pure (wpAny_pure (hQ _ s.heap (Heap.SameBut.refl a s.heap) ?_))
    unfold withT
    rw [if_pos mem]
    exact ⟨nd, o, es, ep, t, ho, hex, hd, g, pmx, hb, hf, hr, hl⟩
  | none =>
    have nmem : x ∉ xs := fun z => by
      rw [← pmx.mem_iff, List.mem_map] at z
      obtain ⟨e, he, q⟩ := z
      have bad := List.findIdx?_eq_none_iff.mp found e he
      rw [(goodS_is (P := P) (g e he) x).2 q] at bad
      cases bad
    dsimp only
    have pm := layNew_perm t es ((strKind P w).hash x) (.str x tk)
    have hf1 := layNew_fits t es ((strKind P w).hash x) (.str x tk)
    have hr1 := layNew_ris t es ((strKind P w).hash x) (.str x tk) hr
    have hl1 := layNew_led t es ((strKind P w).hash x) (.str x tk)
    revert pm hf1 hr1 hl1
    generalize layNew t es ((strKind P w).hash x) (.str x tk) = Z
    obtain ⟨es1, t1, dummy, gv⟩ := Z
    intro pm hf1 hr1 hl1
    dsimp only at pm hf1 hr1 hl1 ⊢
    rw [Array.toList_push] at pm
    have g1 : ∀ e ∈ es1.toList, GoodS w e := fun e he => by
      rcases List.mem_append.mp (pm.mem_iff.mp he) with z | z
      · exact g e z
      · cases List.mem_singleton.mp z
        exact ⟨x, tk, rfl, rfl⟩
    have pk : (es1.toList.map keyS).Perm (xs ++ [x]) := by
      have q := pm.map keyS
      rw [List.map_append] at q
      exact q.trans (pmx.append (List.Perm.refl [x]))
    have e1 : withT xs x = xs ++ [x] := if_neg nmem
    have nd1 : (xs ++ [x]).Nodup := by
      rw [← e1]
      exact withT_nd nd
    have hb1 : es1.size < scanBound := by
      have z := pk.length_eq
      rw [List.length_map, Array.length_toList, List.length_append] at z
      have y : [x].length = 1 := rfl
      omega
    have led1 : w.params.followText "set-order" = true ∨ t1.led = true := hl.imp id fun z => by rw [hl1]; exact z
    have give : ∀ (m : String) (b : Bool) {s₁ : Shared} {Q' : Unit → Shared → Prop}, Q' () s₁ → wpAny (model P w) A (match b with | true => rule m | false => pure ()) Q' E s₁ := by
      intro m b s₁ Q' q
      cases b
      · exact wpAny_pure q
      · exact wpAny_rule q
    have fin : ∀ h', Heap.SameBut a s.heap h' → SetT w h' a (xs ++ [x]) → Q true { s with heap := h' } := fun h' sb r => hQ true h' sb (by rw [e1]; exact r)
    refine wpAny_bind (give _ _ ?_)
    split
    · refine wpAny_bind ?_
      rw [hashByValue_scannable 8 sc]
      refine wpAny_pure (tailS (fun b s₁ Q' q => give _ b q) ho hex hd nd1 g1 pk hb1 ?_ ?_ ?_ fun h' sb r => wpAny_pure (fin h' sb r))
      · split
        · first | exact hf1 | exact SetTable.fits_plain_off hf1
        · exact hf1
      · split <;> exact hr1
      · split <;> exact led1
    · refine wpAny_bind (wpAny_pure ?_)
      simp only [↓reduceIte]
      exact tailS (fun b s₁ Q' q => give _ b q) ho hex hd nd1 g1 pk hb1 hf1 hr1 led1 fun h' sb r => wpAny_pure (fin h' sb r)
end
end My
/-! sorted of texts, any number of them: of lists and of sets; set.add, a new set -/
namespace My
open PySem PySem.Spec PyProof.Rows L2
/-! ### the order of texts -/
def sv : Value → Str
  | .str x _ => x
  | _ => Str.empty
def ltS (v u : Value) : Bool := decide ((sv v).cps.toList < (sv u).cps.toList)
theorem swoS : SrtO.Swo ltS := by
  refine ⟨fun x y h => ?_, fun x y z h1 h2 => ?_⟩
  · have a := of_decide_eq_true (p := (sv x).cps.toList < (sv y).cps.toList) h
    exact decide_eq_false (p := (sv y).cps.toList < (sv x).cps.toList) fun b => List.lt_irrefl _ (List.lt_trans a b)
  · have a := of_decide_eq_false (p := (sv y).cps.toList < (sv x).cps.toList) h1
    have b := of_decide_eq_false (p := (sv z).cps.toList < (sv y).cps.toList) h2
    refine decide_eq_false (p := (sv z).cps.toList < (sv x).cps.toList) fun c => ?_
    exact List.not_lt.mpr (List.le_trans (List.not_lt.mp a) (List.not_lt.mp b)) c
theorem strs_mem : ∀ {vs : List Value} {ss : List Str}, StrsAre vs ss → ∀ v ∈ vs, ∃ i t, v = Value.str i t
  | _, _, .nil, v, h => by cases h
  | _, _, .cons n t r, v, h => by
    rcases List.mem_cons.mp h with e | h
    · exact ⟨n, t, e⟩
    · exact strs_mem r v h
theorem strs_sv : ∀ {vs : List Value}, (∀ v ∈ vs, ∃ i t, v = Value.str i t) → StrsAre vs (vs.map sv)
  | [], _ => .nil
  | v :: vs, h => by
    obtain ⟨i, t, e⟩ := h v List.mem_cons_self
    subst e
    exact .cons i t (strs_sv fun u hu => h u (List.mem_cons_of_mem _ hu))
theorem sv_strs : ∀ {vs : List Value} {ss : List Str}, StrsAre vs ss → vs.map sv = ss
  | _, _, .nil => rfl
  | _, _, .cons n t r => congrArg (n :: ·) (sv_strs r)
section
variable {P : Program} {w : World} {A : Around} {E : Value → Shared → Prop} {s : Shared}
theorem strs_sortable {a : Addr} {vs : List Value} {ss : List Str} (hs : StrsAre vs ss) (h2 : 2 ≤ vs.length) : SrtO.SortableO P w A s a vs ltS := by
  intro h' _
  refine ⟨oneType', fun Q E hq => ?_, fun p q hm hm' => ?_⟩
  · match vs, hs, h2 with
    | v1 :: v2 :: rest, hs, _ =>
      rw [keyKind_strs hs]
      exact wpAny_pure hq
    | [v], _, h => exact absurd h (by simp)
    | [], _, h => exact absurd h (by simp)
  · obtain ⟨a, t, e⟩ := strs_mem hs _ hm
    obtain ⟨b, u, e'⟩ := strs_mem hs _ hm'
    show wpAny (model P w) A (keyLt' oneType' p.1 q.1) (fun r s' => s' = _ ∧ r = ltS p.1 q.1) (fun _ _ => False) _
    rw [e, e', keyLt'_oneType]
    exact oneLt_str ⟨rfl, rfl⟩
/-- rising, perhaps with equal ones -/
def Sorted (ys : List Str) : Prop := ys.Pairwise fun x y => ¬ y.cps.toList < x.cps.toList
theorem strs_out {vs out : List Value} {ss : List Str} (hs : StrsAre vs ss) (h1 : SrtO.Srtd ltS out) (hb : SrtO.Stb ltS out vs) :
    StrsAre out (out.map sv) ∧ (out.map sv).Perm ss ∧ Sorted (out.map sv) := by
  refine ⟨strs_sv fun v hv => strs_mem hs v (hb.perm.mem_iff.mp hv), ?_, ?_⟩
  · have q := hb.perm.map sv
    rw [sv_strs hs] at q
    exact q
  · exact List.pairwise_map.mpr (h1.imp fun {x y} h => of_decide_eq_false (p := (sv y).cps.toList < (sv x).cps.toList) h)
theorem addS {a : Addr} {xs : List Str} {x : Str} {tk : Tok} {Q : Value → Shared → Prop} (R : SetT w s.heap a xs) (room : xs.length + 1 < scanBound)
    (hQ : ∀ h', Heap.SameBut a s.heap h' → SetT w h' a (withT xs x) → Q .none { s with heap := h', toks := s.toks + 1 }) :
    wpAny (model P w) A (call (.builtin "set.add") [.ref a, .str x tk]) Q E s := by
  have so : s.heap.SetOf (strKind P w) a _ _ := R.setOf
  refine wpAny_call_entry F.slot_set_add so.typeIs F.entry_set_add ?_ (F.args_set_add_2 _ _)
  unfold Builtin.«set.add» Builtin.Frozenset.oneOther Builtin.Frozenset.addrOf setAdd
  simp only [List.isEmpty_nil, bind_assoc]
  refine wpAny_bind (wpAny_pure ?_)
  try dsimp only
  refine wpAny_bind (wpAny_pure ?_)
  try dsimp only
  refine wpAny_bind (wpAny_holding (wpAny_bind ((strKind P w).pyHash (strKind_is P w x tk) ?_)))
  refine addS_hashed (s := { s with toks := s.toks + 1 }) R room fun b h' sb r => ?_
  show wpAny _ _ (ret Value.none) _ _ _
  exact wpAny_pure ⟨_, rfl, hQ h' sb r⟩
/-- the object of a new set -/
def newS (w : World) : Obj := { cls := .type "set", dict := none, data := .set #[] 0 (.fresh 0 0 (!w.params.followText "set-order")) }
theorem newS_ok {h : Heap} : SetT w (h.push (newS w)) h.objs.size [] := by
  refine ⟨List.nodup_nil, _, #[], 0, _, Heap.get?_push_size _ rfl, ⟨rfl, rfl, rfl⟩, rfl, fun e he => by simp at he, by simp, by decide, rfl, List.Pairwise.nil, ?_⟩
  show _ ∨ (!w.params.followText "set-order") = true
  cases w.params.followText "set-order"
  · exact .inr rfl
  · exact .inl rfl
theorem newSet_run {Q : Value → Shared → Prop} (h : Q (.ref s.heap.objs.size) { s with heap := s.heap.push (newS w) }) :
    wpAny (model P w) A (newSet (.type "set")) Q E s := by
  unfold newSet setsByText
  refine wpAny_bind (wpAny_bind (wpAny_askSetting (wpAny_pure ?_)))
  show wpAny _ _ (newObj _ _) _ _ _
  unfold newObj
  exact wpAny_bind (wpAny_alloc (wpAny_pure h))
/-- sorted(a set of texts) -/
theorem sortedT {a : Addr} {xs : List Str} {Q : Value → Shared → Prop} (R : SetT w s.heap a xs) (hh : A.handled = none)
    (hQ : ∀ s' p (out : Array Value) (c : Nat) (ys : List Str), (∀ b o, s.heap.get? b = some o → s'.heap.get? b = some o) → s'.gens = s.gens → s'.os = s.os →
      s.heap.objs.size ≤ p → s'.heap.get? p = some (seqObj "list" out c) → StrsAre out.toList ys → Sorted ys → ys.Perm xs → Q (.ref p) s') :
    wpAny (model P w) A (call (.builtin "sorted") [.ref a]) Q E s := by
  obtain ⟨nd, o, es, ep, t, ho, hex, hd, g, pmx, hb, hf, hr, hl⟩ := R
  refine Calls.call_function_entry kind_sorted plain_sorted entry_sorted (args_sorted1 _) ?_
  unfold Builtin.«sorted»
  refine wpAny_bind (m := checkCount "sorted" 1 1 _) (wpAny_pure ?_)
  refine wpAny_bind (collect_set (A := A.in1) hh ⟨o, ho, hex.1, hd⟩ hf hb hr hl fun s1 vs k1 hz g1 o1 pm => ?_)
  have small : vs.length < scanBound := by
    rw [pm.length_eq, List.length_map, Array.length_toList]
    exact hb
  have line : vs.length ≤ sizeLine := by
    have e : scanBound ≤ sizeLine := by decide
    omega
  have hs : StrsAre vs (vs.map sv) := strs_sv fun v hv => by
    obtain ⟨e, he, q⟩ := List.mem_map.mp (pm.mem_iff.mp hv)
    obtain ⟨x, tk, h1, _⟩ := g e he
    exact ⟨x, tk, by rw [← q]; exact h1⟩
  have pk : (vs.map sv).Perm xs := by
    have q := pm.map sv
    rw [List.map_map] at q
    exact q.trans pmx
  refine wpAny_bind (wpAny_newList ?_ line)
  have hoL : (s1.heap.push (seqObj "list" vs.toArray 0)).get? s1.heap.objs.size = some (seqObj "list" vs.toArray 0) := Heap.get?_push_size _ rfl
  refine wpAny_bind (wpAny_holding (wpAny_call_entry slot_list_sort ⟨_, hoL, rfl⟩ entry_list_sort
    (SrtO.list_sort_ord swoS hoL line (fun h2 => strs_sortable hs h2) fun out a1 a2 => ⟨.none, rfl, ?_⟩) (args_list_sort _)))
  obtain ⟨b1, b2, b3⟩ := strs_out hs a1 a2
  obtain ⟨c, hc⟩ := sortedHeap_at (vs := vs) (out := out.toArray) hoL
  refine wpAny_pure ⟨_, rfl, hQ _ s1.heap.objs.size out.toArray c (out.map sv) (fun b u e => ?_) g1 o1 hz hc (by simpa using b1) b3 (b2.trans pk)⟩
  have q := k1 b u e
  have lt := Heap.lt_size q
  show (sortedHeap (s1.heap.push (seqObj "list" vs.toArray 0)) s1.heap.objs.size vs out.toArray).get? b = some u
  rw [sortedHeap_old (Nat.ne_of_lt lt) (by rw [size_push']; exact Nat.lt_succ_of_lt lt)]
  exact Heap.get?_push_of_some _ q
end
/-! ### over the layer -/
def SetTx (w : World) (a : Addr) (xs : List Str) : HO := .ext fun h => SetT w h a xs
theorem setTx_ok {P : Program} {w : World} {H : Hp} {h : Heap} {a : Addr} {xs : List Str} (R : SetT w h a xs) : ObjOk P w H h a (SetTx w a xs) := by
  obtain ⟨o, es, ep, t, ho, _⟩ := R.at_
  exact ⟨R, ⟨o, ho⟩, fun _ _ r k => r.keep k⟩
def rSortedT (w : World) : List V → Hp → VK → Prop := fun vs H Q => ∃ (a : Addr) (xs : List Str), vs = [.ref a] ∧ H a = some (SetTx w a xs) ∧
  ∀ (ys : List Str) (p : Addr), ys.Perm xs → Sorted ys → H p = none → Q (.ref p) (upd H p (.lst (ys.map V.str)))
/-- sorted(xs), texts, any number of them -/
def rSortedL (K : PySem.W.Frag) : List V → Hp → VK → Prop := fun vs H Q => ∃ (a : Addr) (xs : List Str), vs = [.ref a] ∧ SqL K H a (xs.map V.str) ∧
  ∀ (ys : List Str) (p : Addr), ys.Perm xs → Sorted ys → H p = none → Q (.ref p) (upd H p (.lst (ys.map V.str)))
section
variable {X : Cx}
theorem cr_sortedT (hc : X.calm = true) : CallR X (.builtin "sorted") (rSortedT X.w) := by
  intro pins s σ H vs us Q I r h
  obtain ⟨a, xs, rfl, ha, q⟩ := h
  obtain ⟨u, rfl, ru⟩ := vals1 r
  cases (show u = Value.ref a from ru)
  obtain ⟨R, _⟩ := I.hok a _ ha
  refine sortedT R (I.ok.hd hc) fun s' p out c ys k g o sz hp hs srt pm => ?_
  have np := I.hok.fresh sz
  have big : (ys.map V.str).length ≤ sizeLine := by
    rw [List.length_map, pm.length_eq]
    obtain ⟨_, es, _, _, _, _, _, _, _, hb, _, hn⟩ := R.setOf (P := X.prog) (s := s)
    have e : scanBound ≤ sizeLine := by decide
    omega
  have un : Un (frs X.stack) [] H (upd H p (.lst (ys.map V.str))) s.heap s'.heap := Un.laid k sz np
  have okH := I.hok.laid (a := p) (o := .lst (ys.map V.str)) k sz ⟨big, out.toList, c, vals_of_strs hs, hp⟩
  exact ⟨.ref p, _, I.call' o un okH (by rw [g]; exact I.bare) (fun _ z => nomatch z), rfl, q ys p pm srt np⟩
theorem cr_sortedL : CallR X (.builtin "sorted") (rSortedL X.K) := by
  intro pins s σ H vs us Q I r h
  obtain ⟨a, xs, rfl, hs, q⟩ := h
  obtain ⟨its, rv, hl, hz⟩ := I.list hs
  rw [Vals.ref1 r]
  have hi := rv.strs
  refine SrtO.sorted_ord swoS hl.isList (by rw [← rv.length]; exact hz) (fun h2 h₁ a' _ _ => strs_sortable hi h2) fun out h1 h2 => ?_
  obtain ⟨k1, k2, k3⟩ := strs_out hi h1 h2
  obtain ⟨ep, he⟩ := PyProof.Rows.sortedAll_at s.heap its out.toArray
  have len : ((out.map sv).map V.str).length ≤ sizeLine := by
    rw [List.length_map, k2.length_eq]
    rw [List.length_map] at hz
    exact hz
  have J := I.laid (o := .lst ((out.map sv).map V.str)) (t' := s.toks) (fun _ _ => PyProof.Rows.sortedAll_old) (Nat.le_succ _) ⟨len, out, ep, vals_of_strs k1, he⟩
  exact ⟨.ref _, _, J, rfl, q _ _ k2 k3 (I.hok.fresh (Nat.le_succ _))⟩
end
end My
/-! set(a list of texts), any number of them -/
namespace My
open PySem PySem.Spec PyProof.Rows L2
/-- each once, in the order of their coming -/
def distT (xs : List Str) : List Str := xs.foldl withT []
theorem distT_snoc (xs : List Str) (x : Str) : distT (xs ++ [x]) = withT (distT xs) x := by
  unfold distT
  rw [List.foldl_append]
  rfl
theorem withT_mem {xs : List Str} {x y : Str} : y ∈ withT xs x ↔ y ∈ xs ∨ y = x := by
  unfold withT
  split
  · rename_i h
    exact ⟨.inl, fun z => z.elim id fun e => e ▸ h⟩
  · rw [List.mem_append, List.mem_singleton]
theorem withT_len (xs : List Str) (x : Str) : (withT xs x).length ≤ xs.length + 1 := by
  unfold withT
  split
  · omega
  · rw [List.length_append]
    exact Nat.le_refl _
theorem foldT_mem {y : Str} : ∀ (xs acc : List Str), y ∈ xs.foldl withT acc ↔ y ∈ acc ∨ y ∈ xs
  | [], acc => by simp
  | x :: r, acc => by
    rw [List.foldl_cons, foldT_mem r, withT_mem, List.mem_cons, or_assoc]
theorem foldT_len : ∀ (xs acc : List Str), (xs.foldl withT acc).length ≤ acc.length + xs.length
  | [], acc => Nat.le_refl _
  | x :: r, acc => by
    have a := foldT_len r (withT acc x)
    have b := withT_len acc x
    rw [List.foldl_cons, List.length_cons]
    omega
theorem foldT_nd : ∀ (xs : List Str) {acc : List Str}, acc.Nodup → (xs.foldl withT acc).Nodup
  | [], _, h => h
  | _ :: r, _, h => foldT_nd r (withT_nd h)
theorem distT_mem {xs : List Str} {y : Str} : y ∈ distT xs ↔ y ∈ xs := (foldT_mem xs []).trans (by simp)
theorem distT_len (xs : List Str) : (distT xs).length ≤ xs.length := Nat.le_trans (foldT_len xs []) (by simp)
theorem distT_nd (xs : List Str) : (distT xs).Nodup := foldT_nd xs List.nodup_nil
section
variable {P : Program} {w : World} {A : Around} {E : Value → Shared → Prop} {s : Shared}
theorem updT {I : Addr} {fp wr : List Addr} {G : Array GenState → Array GenState → Prop} {n : Nat} {Pv : Nat → Value → Prop} {St : Nat → Shared → Prop} {R : Result → Shared → Prop}
    (W : WalksS P w A.in1 I fp wr G n Pv St) (d : Addr) (nf : d ∉ fp) (xs : List Str) (hn : n = xs.length) (room : xs.length + 1 < scanBound)
    (val : ∀ i v, Pv i v → ∃ x t, xs[i]? = some x ∧ v = .str x t) : ∀ (k i : Nat) (s : Shared), n - i = k → i ≤ n → St i s → SetT w s.heap d (distT (xs.take i)) →
      (∀ s', Moved (d :: wr) G s s' → SetT w s'.heap d (distT xs) → R (.ok (.ret .none)) s') → codeAny (model P w) A (.builtin "set.update.loop" ⟨[.ref d, .ref I], []⟩) R s := by
  have nw : d ∉ wr := fun z => nf (W.sub _ z)
  have up : ∀ b ∈ wr, b ∈ d :: wr := fun b z => List.mem_cons_of_mem _ z
  intro k
  induction k with
  | zero =>
    intro i s hk hi hst hS hR
    have e : xs.take i = xs := List.take_of_length_le (by omega)
    have hin : i = n := by omega
    subst hin
    rw [e] at hS
    refine codeAny_builtin F.entry_set_update_loop ?_
    rw [Around.under_plainId F.plain_set_update_loop _]
    exact wpAny_bind (m := pyNext (.ref I)) (W.done s _ _ hst fun s' m => wpAny_pure (hR s' (m.mono up) (hS.keep fun o z => m.heap d o nw z)))
  | succ k ih =>
    intro i s hk hi hst hS hR
    have lt : i < n := by omega
    refine codeAny_builtin F.entry_set_update_loop ?_
    rw [Around.under_plainId F.plain_set_update_loop _]
    refine wpAny_bind (m := pyNext (.ref I)) (W.item i s _ _ lt hst fun v s' pv hst' m => ?_)
    obtain ⟨x, t, hx, rfl⟩ := val i v pv
    have hS' : SetT w s'.heap d (distT (xs.take i)) := hS.keep fun o z => m.heap d o nw z
    refine wpAny_bind (m := holding [Value.str x t] (setAdd d (.str x t))) (wpAny_holding ?_)
    unfold setAdd
    refine wpAny_holding (wpAny_bind ((PySem.strKind P w).pyHash (k := x) (strKind_is _ _ _ _) ?_))
    have few := distT_len (xs.take i)
    rw [List.length_take] at few
    refine addS_hashed (s := { s' with toks := s'.toks + 1 }) hS' (by omega) fun _ h' sb new => ?_
    rw [← distT_snoc] at new
    have e : xs.take i ++ [x] = xs.take (i + 1) := by
      rw [List.take_add_one, hx]
      rfl
    rw [e] at new
    refine wpAny_pure ⟨plainId_quiet F.plain_set_update_loop _, ih (i + 1) _ (by omega) lt (W.frame _ s' _ _ hst' (Nat.le_succ _) fun b hb o z => ?_) new fun s2 m2 q2 => ?_⟩
    · exact (sb.2 b fun y => nf (y ▸ hb)).trans z
    · exact hR s2 (Moved.trans W.gtrans ((m.mono up).then_heap (Nat.le_succ _) fun b o hb z => (sb.2 b fun y => hb (y ▸ List.mem_cons_self)).trans z) m2) q2
theorem str_at : ∀ {vs : List Value} {ss : List Str}, StrsAre vs ss → ∀ (i : Nat) (v : Value), vs[i]? = some v → ∃ x t, ss[i]? = some x ∧ v = .str x t
  | _, _, .nil, i, v, h => by simp at h
  | _, _, .cons n t r, 0, v, h => ⟨n, t, rfl, (Option.some.inj h).symm⟩
  | _, _, .cons n t r, i + 1, v, h => str_at r i v h
theorem newS_at {h : Heap} {a : Addr} (ho : h.get? a = some (newS w)) : SetT w h a [] := by
  refine ⟨List.nodup_nil, _, #[], 0, _, ho, ⟨rfl, rfl, rfl⟩, rfl, fun e he => by simp at he, by simp, by decide, rfl, List.Pairwise.nil, ?_⟩
  show _ ∨ (!w.params.followText "set-order") = true
  cases w.params.followText "set-order"
  · exact .inr rfl
  · exact .inl rfl
theorem call_setT {a : Addr} {items : Array Value} (xs : List Str) {Q : Value → Shared → Prop} (hh : A.handled = none) (hl : s.heap.IsList a items) (hi : StrsAre items.toList xs) (room : xs.length + 1 < scanBound)
    (h : ∀ (h' : Heap) (tk : Nat), SetT w h' s.heap.objs.size (distT xs) → (∀ b o, s.heap.get? b = some o → h'.get? b = some o) → Q (.ref s.heap.objs.size) { s with heap := h', toks := tk }) :
    wpAny (model P w) A (call (.type "set") [.ref a]) Q E s := by
  have size : items.size = xs.length := by
    have z := hi.length
    rwa [Array.length_toList] at z
  obtain ⟨_, _, hmro⟩ := F.called_set.mro
  have m1 := F.called_set.made
  have m2 := F.called_set.sub
  refine wpAny_call (codeAny_of_tree (show wpAny _ _ (callAny (.type "set") _) _ _ _ from wpAny_pure ⟨Code.quiet_builtin _ (by decide +kernel), codeAny_builtin F.entry_type_call ?_⟩))
  rw [Around.under_plain (weight_type_call_type "set" [.ref a] []) rfl]
  have m3 := F.called_set.notType
  have m4 := F.called_set.canCreate
  have m5 := F.typeCall_set_1 (.ref a)
  repeat any_goals first | assumption | wp_step
  refine codeAny_mono (code_set_led1 (.ref a) (E := E) (Q₁ := fun v t => v = .ref s.heap.objs.size ∧ t = { s with heap := s.heap.push (newS w) }) ⟨rfl, rfl⟩) fun r t hr => ?_
  match r, hr with
  | .ok (.ret v), hr =>
    obtain ⟨rfl, rfl⟩ := hr
    have hS : (s.heap.push (newS w)).get? s.heap.objs.size = some (newS w) := Heap.get?_push_size _ rfl
    have hT : Shared.TypeIs { s with heap := s.heap.push (newS w) } (.ref s.heap.objs.size) "set" := ⟨_, hS, rfl⟩
    have m6 := F.called_set.init.lookup
    have m7 := F.called_set.init.bind (.ref s.heap.objs.size)
    repeat any_goals first | assumption | wp_step
    refine codeAny_mono (codeAny_call_builtin (R := wants (fun r t => r = .none ∧ ∃ h' tk, t = { s with heap := h', toks := tk } ∧ SetT w h' s.heap.objs.size (distT xs) ∧
        (∀ b o, s.heap.get? b = some o → h'.get? b = some o)) E) F.called_set.init.plain F.entry_set_init (check_set_init_1 hT ?_)) fun r t hr => ?_
    · obtain ⟨⟨oc, od, odt, osl⟩, ho, hcl, nl, hdl⟩ := hl
      simp only at hcl hdl
      subst hcl hdl
      have ho' := Heap.get?_push_of_some (newS w) ho
      have m8 := F.sub_list_set
      have m9 := F.sub_list_frozenset
      have ne : (Value.type "list" == Value.type "dict") = false := by decide
      have hl1 : (s.heap.push (newS w)).IsList a items := ⟨_, ho', rfl, nl, rfl⟩
      unfold Builtin.«set.__init__»
      unfold noKeywords Builtin.Frozenset.updateFrom
      generalize hg : pyIter = it
      wp_walk
      subst hg
      refine wpAny_pyIter_list hl1 (wpAny_bind (wpAny_runValue ?_))
      have la : a < s.heap.objs.size := Heap.lt_size ho
      have sz : (s.heap.push (newS w)).objs.size = s.heap.objs.size + 1 := Heap.size_push ..
      have na : a ≠ (s.heap.push (newS w)).objs.size := Nat.ne_of_lt (by rw [sz]; exact Nat.lt_succ_of_lt la)
      refine updT ((Walks.list (by simp [hh]) _ a na items).toS) s.heap.objs.size (fun z => ?_) xs size room (fun i v z => str_at hi i v (by rw [Array.getElem?_toList]; exact z)) (items.size - 0) 0 _ (by omega) (Nat.zero_le _)
        ⟨⟨_, Heap.get?_push_size _ rfl, rfl, rfl⟩, hl1.push _⟩ (newS_at (Heap.get?_push_of_some _ hS)) fun t m q => ?_
      · rcases List.mem_cons.mp z with y | y
        · exact absurd (y.trans sz) (Nat.ne_of_lt (Nat.lt_succ_self _))
        · exact absurd (List.mem_singleton.mp y) (Nat.ne_of_gt la)
      · obtain ⟨h', g', d', tk', o'⟩ := t
        cases (show g' = s.gens from m.gens)
        cases (show d' = s.drawn from m.drawn)
        cases (show o' = s.os from m.os)
        refine wpAny_pure (show wpAny _ _ (ret Value.none) _ _ _ from wpAny_pure ⟨rfl, h', tk', rfl, q, fun b o z => ?_⟩)
        have lb := Heap.lt_size z
        refine m.heap b o (fun y => ?_) (Heap.get?_push_of_some _ (Heap.get?_push_of_some _ z))
        rcases List.mem_cons.mp y with y | y
        · exact absurd y (Nat.ne_of_lt lb)
        · exact absurd ((List.mem_singleton.mp y).trans sz) (Nat.ne_of_lt (Nat.lt_succ_of_lt lb))
    · match r, hr with
      | .ok (.ret v), hr =>
        obtain ⟨rfl, h', tk, rfl, q, k⟩ := hr
        repeat any_goals first | assumption | wp_step
        exact h _ _ q k
      | .error e, hr => exact hr
  | .error e, hr => exact hr
end
/-- set(xs), texts -/
def rSetL (K : PySem.W.Frag) (w : World) : List V → Hp → VK → Prop := fun vs H Q => ∃ (a : Addr) (xs : List Str), vs = [.ref a] ∧ SqL K H a (xs.map V.str) ∧ xs.length + 1 < scanBound ∧
  ∀ p, H p = none → Q (.ref p) (upd H p (SetTx w p (distT xs)))
theorem cr_setL {X : Cx} (hc : X.calm = true) : CallR X (.type "set") (rSetL X.K X.w) := by
  intro pins s σ H vs us Q I r h
  obtain ⟨a, xs, rfl, hs, room, q⟩ := h
  obtain ⟨its, rv, hl, hz⟩ := I.list hs
  rw [Vals.ref1 r]
  refine call_setT xs (I.ok.hd hc) hl.isList (by simpa using rv.strs) room fun h' tk st k => ?_
  exact ⟨.ref _, _, I.laid (t' := tk) k (Nat.le_refl _) (setTx_ok st), rfl, q _ (I.hok.fresh (Nat.le_refl _))⟩
end My
/-! {e for t0 in i0 for t1 in i1}: a set of texts, by two clauses without tests -/
namespace My
open PySem PySem.Spec PyProof.Rows L2
abbrev SC (e t0 i0 t1 i1 : Expr) (b : Scope) (pos : Pos) : Expr := .SetComp e [⟨t0, i0, [], 0⟩, ⟨t1, i1, [], 0⟩] b pos
section
variable {P : Program} {w : World} {A : Around} {R : Result → Shared → Prop} {s : Shared} {e t0 i0 t1 i1 : Expr} {b : Scope} {pos : Pos} {j acc : Value} {v : Env}
theorem turn_o : compTurn (SC e t0 i0 t1 i1 b pos) 0 j acc v = (standAt i0.pos >>= fun _ => pyNext j >>= fun r => match r with
    | none => pure (.done .next)
    | some u => letOwnedTupleGo t0 j u >>= fun _ => assign t0 v u >>= fun _ => eval i1 v >>= fun x => standAt i1.pos >>= fun _ =>
      foldedSetIterable i1 v x >>= fun y => holding [y] (pyIter y) >>= fun k => runOwn (.compStart (SC e t0 i0 t1 i1 b pos) 1 k acc v) v >>= fun _ =>
      again (.compLoop (SC e t0 i0 t1 i1 b pos) 0 j acc v)) := by rfl
theorem turn_i : compTurn (SC e t0 i0 t1 i1 b pos) 1 j acc v = (standAt i1.pos >>= fun _ => pyNext j >>= fun r => match r with
    | none => pure (.done .next)
    | some u => letOwnedTupleGo t1 j u >>= fun _ => assign t1 v u >>= fun _ => (eval e v >>= fun x => standAt e.pos >>= fun _ =>
      call (.builtin "set.add") [acc, x] >>= fun _ => pure PUnit.unit) >>= fun _ => again (.compLoop (SC e t0 i0 t1 i1 b pos) 1 j acc v)) := by rfl
/-- one way of failing -/
abbrev nb (P : Program) (w : World) (A : Around) (v : Env) (R : Result → Shared → Prop) : Value → Shared → Prop := notedBy (model P w) A v fun x s' => R (.error x) s'
theorem loop_o (hs : ∀ x, foldedSetIterable i1 v x = pure x) (Z : Nat → Shared → Prop)
    (one : ∀ n s, Z n s → wpAny (model P w) A (pyNext j) (fun r s1 => match r with
      | none => R (.ok .next) s1
      | some u => wpAny (model P w) A (letOwnedTupleGo t0 j u) (fun _ s2 => wpAny (model P w) A (assign t0 v u) (fun _ s3 =>
          wpAny (model P w) A (eval i1 v) (fun x s4 => wpAny (model P w) A (pyIter x) (fun k s5 => codeAny (model P w) A (.compStart (SC e t0 i0 t1 i1 b pos) 1 k acc v)
            (fun r s6 => match r with
              | .ok _ => ∃ m, m < n ∧ Z m s6
              | .error _ => False) s5) (nb P w A v R) s4) (nb P w A v R) s3) (nb P w A v R) s2) (nb P w A v R) s1) (nb P w A v R) s)
    (n : Nat) (h : Z n s) : codeAny (model P w) A (.compLoop (SC e t0 i0 t1 i1 b pos) 0 j acc v) R s := by
  refine codeAny_loop rfl Z (fun n s hz => wpAny_noted (show wpAny _ _ (compTurn (SC e t0 i0 t1 i1 b pos) 0 j acc v) _ _ s from ?_)) n h
  rw [turn_o]
  refine wpAny_bind (wpAny_standAt (wpAny_bind (wpAny_mono (one n s hz) (fun r s1 q1 => ?_) fun _ _ z => z)))
  match r with
  | none => exact wpAny_pure q1
  | some u =>
    refine wpAny_bind (wpAny_mono q1 (fun _ s2 q2 => wpAny_bind (wpAny_mono q2 (fun _ s3 q3 => wpAny_bind (wpAny_mono q3 (fun x s4 q4 => ?_) fun _ _ z => z)) fun _ _ z => z)) fun _ _ z => z)
    refine wpAny_bind (wpAny_standAt (wpAny_bind (wpAny_of_eq (hs x) (wpAny_bind (wpAny_holding (wpAny_mono q4 (fun k s5 q5 => ?_) fun _ _ z => z))))))
    refine wpAny_bind (wpAny_runOwn ?_)
    rw [Around.mark_none]
    refine codeAny_mono q5 fun r s6 q6 => ?_
    match r with
    | .ok _ => exact wpAny_pure ⟨rfl, q6⟩
    | .error _ => exact q6.elim
theorem loop_i (Z : Nat → Shared → Prop)
    (one : ∀ n s, Z n s → wpAny (model P w) A (pyNext j) (fun r s1 => match r with
      | none => R (.ok .next) s1
      | some u => wpAny (model P w) A (letOwnedTupleGo t1 j u) (fun _ s2 => wpAny (model P w) A (assign t1 v u) (fun _ s3 =>
          wpAny (model P w) A (eval e v) (fun x s4 => wpAny (model P w) A (call (.builtin "set.add") [acc, x]) (fun _ s5 => ∃ m, m < n ∧ Z m s5)
            (nb P w A v R) s4) (nb P w A v R) s3) (nb P w A v R) s2) (nb P w A v R) s1) (nb P w A v R) s)
    (n : Nat) (h : Z n s) : codeAny (model P w) A (.compLoop (SC e t0 i0 t1 i1 b pos) 1 j acc v) R s := by
  refine codeAny_loop rfl Z (fun n s hz => wpAny_noted (show wpAny _ _ (compTurn (SC e t0 i0 t1 i1 b pos) 1 j acc v) _ _ s from ?_)) n h
  rw [turn_i]
  refine wpAny_bind (wpAny_standAt (wpAny_bind (wpAny_mono (one n s hz) (fun r s1 q1 => ?_) fun _ _ z => z)))
  match r with
  | none => exact wpAny_pure q1
  | some u =>
    refine wpAny_bind (wpAny_mono q1 (fun _ s2 q2 => wpAny_bind (wpAny_mono q2 (fun _ s3 q3 => ?_) fun _ _ z => z)) fun _ _ z => z)
    refine wpAny_bind (wpAny_bind (wpAny_mono q3 (fun x s4 q4 => wpAny_bind (wpAny_standAt (wpAny_bind (wpAny_mono q4 (fun _ s5 q5 => ?_) fun _ _ z => z)))) fun _ _ z => z))
    exact wpAny_pure (wpAny_pure ⟨rfl, q5⟩)
/-- the second clause begins -/
theorem start_i (h0 : codeAny (model P w) A (.compLoop (SC e t0 i0 t1 i1 b pos) 1 j acc v) R s)
    (h : wpAny (model P w) A (pyIter j) (fun k s1 => codeAny (model P w) A (.compLoop (SC e t0 i0 t1 i1 b pos) 1 k acc v) R s1) (nb P w A v R) s) :
    codeAny (model P w) A (.compStart (SC e t0 i0 t1 i1 b pos) 1 j acc v) R s := by
  refine codeAny_of_tree (wpAny_notedAt ?_)
  unfold compStart
  refine wpAny_bind (m := ask) (wpAny_askSetting (wpAny_ite ?_))
  split
  · first
      | exact wpAny_pure ⟨rfl, h0⟩
      | exact wpAny_bind (wpAny_pure (wpAny_pure ⟨rfl, h0⟩))
  · refine wpAny_bind (wpAny_rule ?_)
    refine wpAny_bind (m := standAt i1.pos) (wpAny_standAt (wpAny_bind (wpAny_mono h (fun k s1 q => wpAny_pure ⟨rfl, q⟩) fun _ _ z => z)))
end
end My
namespace My
open PySem PySem.Spec PyProof.Rows L2
section
variable {X : Cx}
/-- set.add over the layer -/
theorem addT_at {pins : List (Addr × Obj)} {σ : L2.St} {H : Hp} {s : Shared} {E : Value → Shared → Prop} {d : Addr} {xs : List Str} {c : Str} {u : Value} {Q : Value → Shared → Prop}
    (I : Inv X pins σ H s) (hd : H d = some (SetTx X.w d xs)) (room : xs.length + 1 < scanBound) (hu : RelV (.str c) u)
    (h : ∀ s', Inv X pins σ (upd H d (SetTx X.w d (withT xs c))) s' → Q .none s') :
    wpAny (model X.prog X.w) X.A (call (.builtin "set.add") [.ref d, u]) Q E s := by
  obtain ⟨tk, rfl⟩ : ∃ tk, u = .str c tk := hu
  refine addS (I.hok d _ hd).1 room fun h' sb new => ?_
  have ex : ∃ o, h'.get? d = some o := new.at_.elim fun o z => z.elim fun _ z => z.elim fun _ z => z.elim fun _ z => ⟨o, z.1⟩
  exact h _ (I.write (e := d) (t' := s.toks + 1) (by rw [hd]; trivial) (.inl rfl) (fun b o nb hb => (sb.2 b nb).trans hb) ex (setTx_ok new))
/-- {e for t0 in i0 for t1 in i1}, texts; d the new set; vs: all names of the block, vs1: those of the second target -/
def tSc2 (w : World) (wi : TI) (g : TG) (wi1 : TI) (g1 : TG) (te : TE) (vs vs1 : List Nat) : TE := fun σ H Q =>
  wi σ H fun J H1 => ∀ d, H1 d = none → ∃ W : Nat → Nat → Hp → Prop, (∃ m, W 0 m (upd H1 d (SetTx w d []))) ∧ ∀ i m G, W i m G →
    (J.stop i G ∧ Q (.ref d) G) ∨ (J.go i G ∧ ∃ Nx : Hp → Prop, (∀ G', Nx G' → ∃ n, n < m ∧ W (i + 1) n G') ∧
      ∀ x G', J.yld i G x G' → g x (wipe σ vs) G' fun τ G2 => wipe τ vs = wipe σ vs ∧ wi1 τ G2 fun J1 G3 =>
        ∃ U : Nat → Nat → Hp → Prop, (∃ m, U 0 m G3) ∧ ∀ j k G, U j k G → (J1.stop j G ∧ Nx G) ∨ (J1.go j G ∧ ∃ Ny : Hp → Prop, (∀ G', Ny G' → ∃ n, n < k ∧ U (j + 1) n G') ∧
          ∀ y G', J1.yld j G y G' → g1 y (wipe τ vs1) G' fun υ G5 => wipe υ vs1 = wipe τ vs1 ∧ te υ G5 fun z G6 =>
            ∃ (c : Str) (xs : List Str), z = .str c ∧ G6 d = some (SetTx w d xs) ∧ xs.length + 1 < scanBound ∧ Ny (upd G6 d (SetTx w d (withT xs c)))))
theorem pe_sc2 {e t0 i0 t1 i1 : Expr} {b : Scope} {own : List (Str × Nat)} {vs1 : List Nat} {pos : Pos} {wi wi1 : TI} {g g1 : TG} {te : TE}
    (hc : X.calm = true) (hN : X.N.Nodup) (hi : PI X t0 i0 wi) (ok : BlkOk X.N X.env.scope b own) (hv : ∀ i ∈ vs1, i ∈ own.map (·.2))
    (hg : ∀ (s : Shared) (H : Hp) (c : Addr) (cl : List (Str × Addr)) (fp : List Addr), PG (X.blk s H b (compEnvC b cl c X.env) fp) t0 g)
    (hi1 : ∀ (s : Shared) (H : Hp) (c : Addr) (cl : List (Str × Addr)) (fp : List Addr), PI (X.blk s H b (compEnvC b cl c X.env) fp) t1 i1 wi1)
    (hg1 : ∀ (s : Shared) (H : Hp) (c : Addr) (cl : List (Str × Addr)) (fp : List Addr), PG (X.blk s H b (compEnvC b cl c X.env) fp) t1 g1)
    (he : ∀ (s : Shared) (H : Hp) (c : Addr) (cl : List (Str × Addr)) (fp : List Addr), PE (X.blk s H b (compEnvC b cl c X.env) fp) e te)
    (hs : ∀ x, foldedSetIterable i0 X.env x = pure x := by intro _; rfl) (hs1 : ∀ env x, foldedSetIterable i1 env x = pure x := by intro _ _; rfl) :
    PE X (SC e t0 i0 t1 i1 b pos) (tSc2 X.w wi g wi1 g1 te (own.map (·.2)) vs1) := by
  refine ⟨fun pins s σ H Q I h => ?_⟩
  rw [PpSet.eval_SetComp]
  have fr : ∀ y ∈ b.names, y.2 = .free → ∃ c, X.env.cells.lookup y.1 = some c := fun y hy z => I.ok.has _ ((ok.free y hy z).elim .inl .inr)
  refine wpAny_comprehension_free (use := none) rfl hs (closure_ok fr) ok.kind (fun y hy z => by rw [ok.uniq y hy, z])
    (thn (hi.run pins s σ H _ I h) fun xv s1 hx => thn hx fun itv s2 h2 => ?_)
  obtain ⟨it, fp, tn, J, H2, rfl, I2, T, st2, f2, q⟩ := h2
  refine newSet_run (newEnv_comp ?_)
  have nd : H2 s2.heap.objs.size = none := I2.hok.fresh (Nat.le_refl _)
  obtain ⟨W, ⟨m0, w0⟩, turn⟩ := q _ nd
  have kp : ∀ a o, s2.heap.get? a = some o → (s2.heap.push (newS X.w)).get? a = some o := fun a o z => Heap.get?_push_of_some _ z
  have I3 : Inv X pins σ (upd H2 s2.heap.objs.size (SetTx X.w s2.heap.objs.size [])) ({ s2 with heap := s2.heap.push (newS X.w) } : Shared) :=
    I2.laid (t' := s2.toks) kp (Nat.le_refl _) (setTx_ok newS_ok)
  have e3 : ({ s2 with heap := s2.heap.push (newS X.w) } : Shared).heap.objs.size = s2.heap.objs.size + 1 := Heap.size_push ..
  have below : ∀ c ∈ fp, c < s2.heap.objs.size := fun c hc => (T.obj _ _ st2 c hc).elim fun o z => Heap.lt_size z.1
  have f3 : ∀ c ∈ fp, FpOk X pins (upd H2 s2.heap.objs.size (SetTx X.w s2.heap.objs.size [])) c ∧ c < ({ s2 with heap := s2.heap.push (newS X.w) } : Shared).heap.objs.size := fun c hc =>
    ⟨⟨by rw [upd_ne (Nat.ne_of_lt (below c hc))]; exact (f2 c hc).1, (f2 c hc).2⟩, by rw [e3]; exact Nat.lt_succ_of_lt (below c hc)⟩
  have st3 : tn 0 ({ s2 with heap := s2.heap.push (newS X.w) } : Shared).heap := T.keep _ _ _ st2 fun a _ o z => kp a o z
  generalize s2.heap.objs.size = d at nd w0 turn I3 f3 ⊢
  generalize hs3 : ({ s2 with heap := s2.heap.push (newS X.w) } : Shared) = s3 at I3 f3 st3 ⊢
  generalize hH3 : upd H2 d (SetTx X.w d []) = H3 at I3 f3 w0
  have I4 := block_start I3 ok hN f3
  generalize hcl : cellsFrom (s3.heap.objs.size + 1) b.names (cloFrom X.env.cells b.names []) = cl at I4 ⊢
  have G0 := hg s3 H3 s3.heap.objs.size cl fp
  have J1 := hi1 s3 H3 s3.heap.objs.size cl fp
  have G1 := hg1 s3 H3 s3.heap.objs.size cl fp
  have E1 := he s3 H3 s3.heap.objs.size cl fp
  generalize hce : compEnvC b cl s3.heap.objs.size X.env = ce at I4 G0 J1 G1 E1
  have cL : ce.locals = s3.heap.objs.size := by rw [← hce]; rfl
  show codeAny _ _ (.compStart (SC e t0 i0 t1 i1 b pos) 0 (.ref it) (.ref d) (compEnvC b cl s3.heap.objs.size X.env)) (compPost (model X.prog X.w) X.A X.xe none (EP X pins σ Q) (.ref d) s3.heap.objs.size) { s3 with heap := pushCells (s3.heap.push { cls := .type "dict", data := .dict #[] }) b.names }
  rw [hce]
  generalize hs4 : ({ s3 with heap := pushCells (s3.heap.push { cls := .type "dict", data := .dict #[] }) b.names } : Shared) = s4 at I4 ⊢
  have st4 : tn 0 s4.heap := T.keep _ _ _ st3 fun a _ o z => by rw [← hs4]; exact pushCells_keeps _ _ _ _ (Heap.get?_push_of_some _ z)
  have n3 : ∀ c ∈ fp, H3 c = none := fun c hc => (f3 c hc).1.1
  -- what the block owes of the first iterator's own objects
  have own0 : ∀ {τ : L2.St} {G : Hp} {t : Shared}, Inv (X.blk s3 H3 b ce fp) [] τ G t → (∀ c ∈ fp, G c = none) → ∀ c ∈ fp, FpOk (X.blk s3 H3 b ce fp) [] G c := fun J hn c hc =>
    ⟨hn c hc, (J.ok.exf c hc).1, J.ok.exfs c hc, .inl hc, fun x a z => (J.ok.exf c hc).2 x a z, fun p hp => nomatch (show p ∈ ([] : List (Addr × Obj)) from hp)⟩
  have main : codeAny (model X.prog X.w) X.A (.compLoop (SC e t0 i0 t1 i1 b pos) 0 (.ref it) (.ref d) ce) (compPost (model X.prog X.w) X.A X.xe none (EP X pins σ Q) (.ref d) s3.heap.objs.size) s4 := by
    refine loop_o (hs1 ce) (fun n t => ∃ i G, Inv (X.blk s3 H3 b ce fp) [] (wipe σ (own.map (·.2))) G t ∧ tn i t.heap ∧ (∀ c ∈ fp, G c = none) ∧ W i n G) ?_ m0 ⟨0, H3, I4, st4, n3, w0⟩
    rintro n t5 ⟨i, G5, I5, st5, n5, w5⟩
    rcases turn i n G5 w5 with ⟨stop, fin⟩ | ⟨go, Nx, less, step⟩
    · refine thnF (T.done (X.blk s3 H3 b ce fp) rfl rfl rfl hc i [] t5 _ G5 (fun _ _ => False) I5 (own0 I5 n5) st5 stop) fun r t6 ⟨hr, I6⟩ => ?_
      subst hr
      have I7 : Inv X pins σ G5 t6 := I3.call' (ch := fp) I6.os I6.base I6.hok I6.bare fun c hc =>
        have f := (f3 c hc).1
        ⟨f.2.2.2.1, f.2.1, f.2.2.2.2.1, f.2.2.2.2.2⟩
      have nc : G5 s3.heap.objs.size = none := cL ▸ (show G5 ce.locals = none from I6.free)
      obtain ⟨m, hm, _⟩ := I6.loc
      obtain ⟨g0, g1, g2, g3, g4, g5⟩ := I3.fpOk (Nat.le_refl _) nc
      refine ⟨m, cL ▸ (show t6.heap.Ns ce.locals m from hm), fun h'' sb => ?_⟩
      exact ⟨.ref d, G5, I7.turned (t' := t6.toks) (fun a o na z => (sb.2 a na).trans z) g0 g1 g3 g4 g5, rfl, fin⟩
    · refine thnF (T.item (X.blk s3 H3 b ce fp) rfl rfl rfl hc i [] t5 _ G5 (fun _ _ => False) I5 (own0 I5 n5) st5 go) fun r t6 ⟨u, hr, h6⟩ => ?_
      subst hr
      refine thnF h6 fun _ t7 ⟨x, G7, I7, r7, y7, st7, n7⟩ => ?_
      refine thnF (G0.run _ t7 _ G7 x u _ (I7.pinned (own0 I7 n7) (T.obj _ _ st7)) r7 (step x G7 y7)) fun _ t8 ⟨τ, G8, I8, wp, q8⟩ => ?_
      refine thnF (J1.run _ t8 τ G8 _ I8 q8) fun xv t9 hx => thnF hx fun itv t10 h10 => ?_
      obtain ⟨it1, fp1, tn1, K1, G10, rfl, I10, T1, st10, f10, U, ⟨m1, u1⟩, turn1⟩ := h10
      have own1 : ∀ {G : Hp}, (∀ c ∈ fp1, G c = none) → ∀ c ∈ fp1, FpOk (X.blk s3 H3 b ce fp) ([] ++ pinsAt fp t7.heap) G c := fun hn c hc => ⟨hn c hc, (f10 c hc).2⟩
      have inner : codeAny (model X.prog X.w) X.A (.compLoop (SC e t0 i0 t1 i1 b pos) 1 (.ref it1) (.ref d) ce)
          (fun r t => match r with
            | .ok _ => ∃ m, m < n ∧ ∃ i G, Inv (X.blk s3 H3 b ce fp) [] (wipe σ (own.map (·.2))) G t ∧ tn i t.heap ∧ (∀ c ∈ fp, G c = none) ∧ W i m G
            | .error _ => False) t10 := by
        refine loop_i (fun k t => ∃ j G, Inv (X.blk s3 H3 b ce fp) ([] ++ pinsAt fp t7.heap) (wipe τ vs1) G t ∧ tn1 j t.heap ∧ (∀ c ∈ fp1, G c = none) ∧ U j k G) ?_ m1
          ⟨0, G10, I10.weak (wipe_length _ _) (fun j v z => (wipe_some z).1), st10, fun c hc => (f10 c hc).1, u1⟩
        rintro k t12 ⟨j, G12, I12, st12, n12, u12⟩
        rcases turn1 j k G12 u12 with ⟨stop1, nx⟩ | ⟨go1, Ny, less1, step1⟩
        · refine thnF (T1.done (X.blk s3 H3 b ce fp) rfl rfl rfl hc j _ t12 (wipe τ vs1) G12 (fun _ _ => False) I12 (own1 n12) st12 stop1) fun r t13 ⟨hr, I13⟩ => ?_
          subst hr
          obtain ⟨m, hm, w⟩ := less _ nx
          have pin : ∀ c ∈ fp, ∀ o, t7.heap.get? c = some o → t13.heap.get? c = some o ∧ G12 c = none := fun c hc o z =>
            let y := I13.pin (c, o) (List.mem_append_right _ (List.mem_append_right _ (mem_pinsAt hc z)))
            ⟨y.1, y.2.1⟩
          refine ⟨m, hm, i + 1, G12, (I13.unpinned (pins := [])).weak ?_ (fun a v z => ?_), T.keep _ _ _ st7 fun c hc o z => (pin c hc o z).1, fun c hc => ?_, w⟩
          · rw [← wp, wipe_length, wipe_length]
          · rw [← wp] at z
            obtain ⟨z1, z2⟩ := wipe_some z
            rw [wipe_out fun y => z2 (hv a y)]
            exact z1
          · obtain ⟨o, z, _⟩ := T.obj _ _ st7 c hc
            exact (pin c hc o z).2
        · refine thnF (T1.item (X.blk s3 H3 b ce fp) rfl rfl rfl hc j _ t12 (wipe τ vs1) G12 (fun _ _ => False) I12 (own1 n12) st12 go1) fun r t13 ⟨u1, hr, h13⟩ => ?_
          subst hr
          refine thnF h13 fun _ t14 ⟨x1, G14, I14, r14, y14, st14, n14⟩ => ?_
          refine thnF (G1.run _ t14 (wipe τ vs1) G14 x1 u1 _ (I14.pinned (own1 n14) (T1.obj _ _ st14)) r14 (step1 x1 G14 y14)) fun _ t15 ⟨υ, G15, I15, wp1, q15⟩ => ?_
          refine thnF (E1.run _ t15 υ G15 _ I15 q15) fun z t16 ⟨yv, G16, I16, r16, c, xs, hy, hd, room, nx⟩ => ?_
          subst hy
          refine addT_at (X := X.blk s3 H3 b ce fp) I16 hd room r16 fun t17 I17 => ?_
          obtain ⟨m, hm, w⟩ := less1 _ nx
          have pin : ∀ c ∈ fp1, ∀ o, t14.heap.get? c = some o → t17.heap.get? c = some o ∧ _ = none := fun c hc o z =>
            let y := I17.pin (c, o) (List.mem_append_right _ (List.mem_append_right _ (mem_pinsAt hc z)))
            ⟨y.1, y.2.1⟩
          refine ⟨m, hm, j + 1, _, I17.unpinned.weak (by rw [← wp1, wipe_length]) (fun a v z => by rw [← wp1] at z; exact (wipe_some z).1), T1.keep _ _ _ st14 fun c hc o z => (pin c hc o z).1, fun c hc => ?_, w⟩
          obtain ⟨o, z, _⟩ := T1.obj _ _ st14 c hc
          exact (pin c hc o z).2
      exact start_i inner (T1.self X.A 0 _ _ _ st10 inner)
  exact PpSet.codeAny_compStart_set main (T.self X.A 0 _ _ _ st4 main)
end
end My
/-! calls by keywords alone; rules with K a letter; order of texts -/
namespace My
open PySem PySem.Spec PyProof.Rows L2
section
variable {X : Cx} {K : PySem.W.Frag}
theorem sortedLK (e : X.K = K) : CallR X (.builtin "sorted") (rSortedL K) := e ▸ cr_sortedL
theorem setLK (e : X.K = K) (hc : X.calm = true) : CallR X (.type "set") (rSetL K X.w) := e ▸ cr_setL hc
theorem allBK (e : X.K = K) (hc : X.calm = true) : CallR X (.builtin "all") (rAll K) := e ▸ cr_all hc
end
section
variable {X : Cx}
/-- a if c else b, as a test -/
theorem pt_ifE {c a b : Expr} {pos : Pos} {tc ta tb : TT} (hc : PT X c tc) (ha : PT X a ta) (hb : PT X b tb) :
    PT X (.IfExp c a b pos) (fun σ H Q => tc σ H fun v H1 => if v = true then ta σ H1 Q else tb σ H1 Q) := by
  refine ⟨fun pins s σ H Q I h => isTrue_IfExp (thn (hc.run pins s σ H _ I h) fun v s1 z => ?_)⟩
  obtain ⟨H1, I1, q⟩ := z
  match v, q with
  | true, q => exact ha.run pins s1 σ H1 Q I1 q
  | false, q => exact hb.run pins s1 σ H1 Q I1 q
end
section
variable {X : Cx} {CX : CXT} {k : Nat} {f : Addr} {fd : FuncData} {ps ks : List Str} {sp : Sp} {E : XK} {x : Str} {p pos : Pos} {kws : List Keyword} {tk : TA}
  {g : List Value → List Value → List Value} {gV : List V → List V → List V}
/-- f(k = v, ..): no values by place -/
theorem pe_callKw (F : FnOk X.prog X.w X.K X.mg X.base CX k f fd ps sp) (hr : Room k X.A) (hg : Gl X x) (hm : X.mg x = some (.ref f)) (kp : PySem.W.keepIn X.K (.ref f) = true)
    (hb : KBinds X.K fd ps ks g gV) (hx : Passes CX X E) (hkw : PK X kws tk) (hall : (backToKw pos (keywordEach kws X.env)).all (·.1.isSome) = true := by rfl)
    (hks : (backToKw pos (keywordEach kws X.env)).filterMap (·.1) = ks := by rfl) (hdb : (x == ("__debug__" : Str)) = false := by decide)
    (hpl : ((backTo pos (starEach [] X.env)).any (·.1) || (backToKw pos (keywordEach kws X.env)).any (·.1.isNone)) = false := by rfl) :
    PE X (.Call (.Name x p) [] kws pos) (fun σ H Q => tk σ H fun zs H2 => sp (gV [] zs) H2 Q E) := by
  refine ⟨fun pins s σ H Q I h => wpAny_Call_Name_kw (ld_glob I hg hm ?_ hdb)⟩
  refine PySem.W.callWith_KW0 (h₀ := X.base) I.ok.mod.kin kp hall (thn (hkw.run pos pins s σ H _ I h) fun ws s2 ⟨zs, H2, I2, rz, q⟩ => ⟨I2.kIn, ?_⟩) hpl
  rw [hks]
  exact run_fnk (us := []) (vs := []) F hr hb hx I2 .nil rz q
end
/-- by one name; by two, the second parameter's first -/
def kw1 {α : Type} : List α → List α → List α
  | [], [a] => [a]
  | _, _ => []
def kw2 {α : Type} : List α → List α → List α
  | [], [a, b] => [b, a]
  | _, _ => []
theorem kw1_rel : ∀ {vs : List V} {us : List Value} {zs : List V} {ws : List Value}, Vals vs us → Vals zs ws → Vals (kw1 vs zs) (kw1 us ws)
  | _, _, _, _, .nil, .nil => .nil
  | _, _, _, _, .nil, .cons a .nil => .cons a .nil
  | _, _, _, _, .nil, .cons a (.cons b r) => .nil
  | _, _, _, _, .cons a r, .nil => .nil
  | _, _, _, _, .cons a r, .cons b .nil => .nil
  | _, _, _, _, .cons a r, .cons b (.cons c d) => .nil
theorem kw2_rel : ∀ {vs : List V} {us : List Value} {zs : List V} {ws : List Value}, Vals vs us → Vals zs ws → Vals (kw2 vs zs) (kw2 us ws)
  | _, _, _, _, .nil, .nil => .nil
  | _, _, _, _, .nil, .cons a .nil => .nil
  | _, _, _, _, .nil, .cons a (.cons b .nil) => .cons b (.cons a .nil)
  | _, _, _, _, .nil, .cons a (.cons b (.cons c d)) => .nil
  | _, _, _, _, .cons a r, .nil => .nil
  | _, _, _, _, .cons a r, .cons b .nil => .nil
  | _, _, _, _, .cons a r, .cons b (.cons c .nil) => .nil
  | _, _, _, _, .cons a r, .cons b (.cons c (.cons d e)) => .nil
theorem fun_kb {K : PySem.W.Frag} {x qual : Str} {st : Stmt} {f : Addr} {fd : FuncData} {ps ks : List Str} {g : List Value → List Value → List Value} {gV : List V → List V → List V} (F : Fun K x qual st f fd)
    (h : ∀ (kV doc pm : Value) (an : Option Addr) (cdv ct : Value) (us ws : List Value), (g us ws).length = ps.length →
      bindArgs (PySem.W.fnOf x qual (defArgs st) (defBody st) (defScope st) .none kV doc pm an cdv ct) ⟨us, ks.zip ws⟩ = pure (ps.zip (g us ws)))
    (rel : ∀ {vs : List V} {us : List Value} {zs : List V} {ws : List Value}, Vals vs us → Vals zs ws → Vals (gV vs zs) (g us ws)) : KBinds K fd ps ks g gV := by
  obtain ⟨oc, od, kV, doc, pm, an, cdv, ct, osl, rfl, lk, hcd⟩ := F.ex
  exact ⟨fun s us ws _ hl => .of_eq (h kV doc pm an cdv ct us ws hl), rel⟩
/-! ### one order alone -/
theorem str_anti {a b : Str} (h1 : ¬ a.cps.toList < b.cps.toList) (h2 : ¬ b.cps.toList < a.cps.toList) : a = b := by
  have e : a.cps.toList = b.cps.toList := List.le_antisymm (List.not_lt.mp h2) (List.not_lt.mp h1)
  obtain ⟨x⟩ := a
  obtain ⟨y⟩ := b
  exact congrArg Str.mk (Array.toList_inj.mp e)
theorem sorted_one {xs ys : List Str} (h : xs.Perm ys) (hx : Sorted xs) (hy : Sorted ys) : xs = ys :=
  h.eq_of_pairwise (fun a b _ _ p q => str_anti q p) hx hy
end My
/-! the bag of draws, apart from all else; boards as data -/
namespace My
open PySem PySem.Spec PyProof.Rows L2
/-! ### the heap without the two objects that draws change -/
def Off (b l : Addr) (H : Hp) : Hp := fun c => if c = b ∨ c = l then none else H c
theorem off_eq {b l c : Addr} {H : Hp} (h1 : c ≠ b) (h2 : c ≠ l) : Off b l H c = H c := if_neg fun z => z.elim h1 h2
theorem off_some {b l c : Addr} {H : Hp} {o : HO} (h : Off b l H c = some o) : c ≠ b ∧ c ≠ l ∧ H c = some o := by
  unfold Off at h
  split at h
  · cases h
  · rename_i z
    exact ⟨fun e => z (.inl e), fun e => z (.inr e), h⟩
abbrev Ext (b l : Addr) (H H' : Hp) : Prop := Same (Off b l H) (Off b l H')
theorem Ext.refl (b l : Addr) (H : Hp) : Ext b l H H := Same.refl _
theorem Ext.trans {b l : Addr} {H H1 H2 : Hp} (x : Ext b l H H1) (y : Ext b l H1 H2) : Ext b l H H2 := Same.trans x y
theorem Ext.of_same {b l : Addr} {H H' : Hp} (s : Same H H') : Ext b l H H' := fun c o h => by
  obtain ⟨h1, h2, h3⟩ := off_some h
  rw [off_eq h1 h2]
  exact s c o h3
theorem Ext.get {b l c : Addr} {H H' : Hp} {o : HO} (x : Ext b l H H') (h : H c = some o) (h1 : c ≠ b) (h2 : c ≠ l) : H' c = some o := by
  have z := x c o (by rw [off_eq h1 h2]; exact h)
  rw [off_eq h1 h2] at z
  exact z
theorem Ext.at_b {b l : Addr} {H : Hp} {o : HO} : Ext b l H (upd H b o) := fun c u h => by
  obtain ⟨h1, h2, h3⟩ := off_some h
  rw [off_eq h1 h2, upd_ne h1]
  exact h3
theorem Ext.at_l {b l : Addr} {H : Hp} {o : HO} : Ext b l H (upd H l o) := fun c u h => by
  obtain ⟨h1, h2, h3⟩ := off_some h
  rw [off_eq h1 h2, upd_ne h2]
  exact h3
theorem same_new {H : Hp} {p : Addr} {o : HO} (h : H p = none) : Same H (upd H p o) := fun c u e => by
  rw [upd_ne (ne_of_none e h)]
  exact e
/-- a new object that changes afterwards is none of the elder ones -/
theorem Ext.over {b l p : Addr} {H H' : Hp} {o : HO} (x : Ext b l H H') (h : H p = none) : Ext b l H (upd H' p o) := fun c u e => by
  obtain ⟨h1, h2, h3⟩ := off_some e
  rw [off_eq h1 h2, upd_ne (ne_of_none h3 h)]
  exact x.get h3 h1 h2
theorem same_over {p : Addr} {H H' : Hp} {o : HO} (x : Same H H') (h : H p = none) : Same H (upd H' p o) := fun c u e => by
  rw [upd_ne (ne_of_none e h)]
  exact x c u e
/-- the bag: its list at b, the digits at l -/
structure Bag (H : Hp) (b l : Addr) : Prop where
  ob : ∃ (i : Nat) (s n : Int), H b = some (.lst [.ref l, .int i, .int s, .int n]) ∧ 0 ≤ s ∧ s < 2305843009213693951
  ds : ∃ xs : List Int, H l = some (.lst (xs.map V.int)) ∧ ∀ x ∈ xs, 0 ≤ x
  ne : b ≠ l
theorem Bag.same {H H' : Hp} {b l : Addr} (B : Bag H b l) (s : Same H H') : Bag H' b l := by
  obtain ⟨⟨i, m, n, h1, r⟩, ⟨xs, h2, q⟩, ne⟩ := B
  exact ⟨⟨i, m, n, s _ _ h1, r⟩, ⟨xs, s _ _ h2, q⟩, ne⟩
theorem Bag.nb {H : Hp} {b l p : Addr} (B : Bag H b l) (h : H p = none) : p ≠ b := fun z => by
  obtain ⟨i, m, n, h1, _⟩ := B.ob
  rw [← z, h] at h1
  cases h1
theorem Bag.nl {H : Hp} {b l p : Addr} (B : Bag H b l) (h : H p = none) : p ≠ l := fun z => by
  obtain ⟨xs, h1, _⟩ := B.ds
  rw [← z, h] at h1
  cases h1
/-- an object that is neither of the two changes -/
theorem Bag.put {H : Hp} {b l p : Addr} {o : HO} (B : Bag H b l) (h1 : p ≠ b) (h2 : p ≠ l) : Bag (upd H p o) b l := by
  obtain ⟨⟨i, m, n, e1, r⟩, ⟨xs, e2, q⟩, ne⟩ := B
  exact ⟨⟨i, m, n, by rw [upd_ne h1.symm]; exact e1, r⟩, ⟨xs, by rw [upd_ne h2.symm]; exact e2, q⟩, ne⟩
/-- a number below count -/
def spDraw : Sp := fun vs H Q _ => ∃ (b l : Addr) (c : Int), vs = [.ref b, .int c] ∧ Bag H b l ∧ 0 < c ∧ c < 1073741824 ∧
  ∀ (r : Int) (H' : Hp), 0 ≤ r → r < c → Bag H' b l → Ext b l H H' → Q (.int r) H'
/-- a new bag -/
def spBag (K : PySem.W.Frag) : Sp := fun vs H Q _ => ∃ (a : Addr) (ns : List Int), vs = [.ref a] ∧ SqL K H a (ns.map V.int) ∧ ns.length ≤ 63 ∧
  ∀ (b l : Addr) (H' : Hp), H b = none → H l = none → Bag H' b l → Same H H' → Q (.ref b) H'
theorem item_int {ns : List Int} {i : Nat} {y : V} (h : (ns.map V.int)[i]? = some y) : ∃ z, ns[i]? = some z ∧ y = V.int z := by
  rw [List.getElem?_map] at h
  cases e : ns[i]? with
  | none =>
    rw [e] at h
    cases h
  | some z =>
    rw [e] at h
    exact ⟨z, rfl, (Option.some.inj h).symm⟩
theorem item_str {ns : List Str} {i : Nat} {y : V} (h : (ns.map V.str)[i]? = some y) : ∃ z, ns[i]? = some z ∧ y = V.str z := by
  rw [List.getElem?_map] at h
  cases e : ns[i]? with
  | none =>
    rw [e] at h
    cases h
  | some z =>
    rw [e] at h
    exact ⟨z, rfl, (Option.some.inj h).symm⟩
theorem map_at {α : Type} {f : α → V} {xs : List α} {i : Nat} {x : α} (h : xs[i]? = some x) : (xs.map f)[i]? = some (f x) := by
  rw [List.getElem?_map, h]
  rfl
theorem cut_map {α : Type} {f : α → V} {xs : List α} {lo hi : Option Int} : ∃ ys : List α, cutV (xs.map f) lo hi = ys.map f ∧ ys.length ≤ xs.length ∧ ∀ y ∈ ys, y ∈ xs := by
  have e : cutV (xs.map f) lo hi = ((xs.drop (HT.sIx (xs.map f).length 0 lo)).take
      (HT.sIx (xs.map f).length (xs.map f).length hi - HT.sIx (xs.map f).length 0 lo)).map f := by
    rw [List.map_take, List.map_drop]
    rfl
  refine ⟨_, e, ?_, fun y hy => List.mem_of_mem_drop (List.mem_of_mem_take hy)⟩
  rw [List.length_take, List.length_drop]
  omega
/-- plain signs alone -/
def Lo (z : Str) : Prop := ∀ c ∈ z.cps.toList, c < 128
theorem Lo.app {a b : Str} (ha : Lo a) (hb : Lo b) : Lo (a ++ b) := fun c h => by
  have e : (a ++ b).cps.toList = a.cps.toList ++ b.cps.toList := by
    show (a.cps ++ b.cps).toList = _
    rw [Array.toList_append]
  rw [e] at h
  rcases List.mem_append.mp h with h | h
  · exact ha c h
  · exact hb c h
theorem lo_one {c : Nat} (h : c < 128) : Lo ⟨#[c]⟩ := fun d hd => by
  have e : d = c := by simpa using hd
  rw [e]
  exact h
/-- a name of at most eight signs -/
structure Ok8 (z : Str) : Prop where
  n8 : z.length ≤ 8
  lo : Lo z
/-- names of at most eight signs -/
def W8 (ws : List Str) : Prop := ∀ z ∈ ws, Ok8 z
theorem w8_nil : W8 [] := fun z h => by cases h
theorem W8.snoc {ws : List Str} {z : Str} (h : W8 ws) (hz : Ok8 z) : W8 (ws ++ [z]) := fun y hy => by
  rcases List.mem_append.mp hy with q | q
  · exact h y q
  · cases List.mem_singleton.mp q
    exact hz
theorem str_add (a b : Str) : (a ++ b).length = a.length + b.length := by first | exact strLen_append a b | exact PySem.Str.length_append a b
theorem join0 : ∀ ws : List Str, (∀ z ∈ ws, z.length = 1) → (Str.join "" ws).length = ws.length
  | [], _ => rfl
  | [x], h => h x List.mem_cons_self
  | x :: y :: r, h => by
    have ih := join0 (y :: r) fun z hz => h z (List.mem_cons_of_mem _ hz)
    show (x ++ "" ++ Str.join "" (y :: r)).length = _
    rw [str_add, str_add, h x List.mem_cons_self, ih]
    have e : (("" : String) : Str).length = 0 := rfl
    rw [e, List.length_cons, List.length_cons, List.length_cons]
    omega
theorem lo_join : ∀ ws : List Str, (∀ z ∈ ws, Lo z) → Lo (Str.join "" ws)
  | [], _ => fun c h => by
    have e : (Str.join "" []).cps.toList = [] := rfl
    rw [e] at h
    cases h
  | [x], h => h x List.mem_cons_self
  | x :: y :: r, h => by
    have ih := lo_join (y :: r) fun z hz => h z (List.mem_cons_of_mem _ hz)
    show Lo (x ++ "" ++ Str.join "" (y :: r))
    refine Lo.app (Lo.app (h x List.mem_cons_self) fun c hc => ?_) ih
    have e : (("" : String) : Str).cps.toList = [] := rfl
    rw [e] at hc
    cases hc
theorem sum_ones : ∀ ws : List Str, (∀ z ∈ ws, z.length = 1) → (ws.map (·.length)).sum = ws.length
  | [], _ => rfl
  | x :: r, h => by
    have ih := sum_ones r fun z hz => h z (List.mem_cons_of_mem _ hz)
    rw [List.map_cons, List.sum_cons, ih, h x List.mem_cons_self, List.length_cons]
    omega
/-- so many names, a new list -/
def spPool : Sp := fun vs H Q _ => ∃ (b l : Addr) (c : Int), vs = [.ref b, .int c] ∧ Bag H b l ∧ 0 ≤ c ∧ c ≤ 96 ∧
  ∀ (p : Addr) (ws : List Str) (H' : Hp), H p = none → p ≠ b → p ≠ l → (ws.length : Int) = c → W8 ws →
    H' p = some (.lst (ws.map V.str)) → Bag H' b l → Ext b l H H' → Q (.ref p) H'
theorem lt_size {n m : Nat} (h : n < m) (h2 : m ≤ 1000) : n < sizeLine := small1000 (by omega)
/-! ### boards as data -/
structure Kp where
  name : Str
  room : Int
  whole : Bool
  row : List Str
structure Tm where
  least : Int
  ks : List Kp
def KpAt (H : Hp) (a : Addr) (k : Kp) : Prop := ∃ r, H a = some (.tup [.str k.name, .int k.room, .bl k.whole, .ref r]) ∧ H r = some (.lst (k.row.map V.str))
def TmAt (H : Hp) (a : Addr) (t : Tm) : Prop := ∃ (c : Addr) (as : List Addr), H a = some (.tup [.int t.least, .ref c]) ∧ H c = some (.lst (as.map V.ref)) ∧ Paired (KpAt H) as t.ks
def BdAt (H : Hp) (a : Addr) (bd : List Tm) : Prop := ∃ as : List Addr, H a = some (.lst (as.map V.ref)) ∧ Paired (TmAt H) as bd
theorem KpAt.same {H H' : Hp} (s : Same H H') {a : Addr} {k : Kp} (h : KpAt H a k) : KpAt H' a k := by
  obtain ⟨r, h1, h2⟩ := h
  exact ⟨r, s _ _ h1, s _ _ h2⟩
theorem TmAt.same {H H' : Hp} (s : Same H H') {a : Addr} {t : Tm} (h : TmAt H a t) : TmAt H' a t := by
  obtain ⟨c, as, h1, h2, h3⟩ := h
  exact ⟨c, as, s _ _ h1, s _ _ h2, L2.Paired.mapP h3 fun _ _ q => q.same s⟩
theorem BdAt.same {H H' : Hp} (s : Same H H') {a : Addr} {bd : List Tm} (h : BdAt H a bd) : BdAt H' a bd := by
  obtain ⟨as, h1, h2⟩ := h
  exact ⟨as, s _ _ h1, L2.Paired.mapP h2 fun _ _ q => q.same s⟩
theorem off_same (b l : Addr) (H : Hp) : Same (Off b l H) H := fun c o h => (off_some h).2.2
/-- what is new in H', seen from H -/
def Nw (H H' : Hp) : Hp := fun c => match H c with
  | none => H' c
  | some _ => none
theorem nw_eq {H H' : Hp} {c : Addr} (h : H c = none) : Nw H H' c = H' c := by
  unfold Nw
  rw [h]
theorem nw_some {H H' : Hp} {c : Addr} {o : HO} (h : Nw H H' c = some o) : H c = none ∧ H' c = some o := by
  unfold Nw at h
  split at h
  · rename_i e
    exact ⟨e, h⟩
  · cases h
def Of1 (d : Addr) (H : Hp) : Hp := fun c => if c = d then none else H c
theorem of1_eq {d c : Addr} {H : Hp} (h : c ≠ d) : Of1 d H c = H c := if_neg h
theorem of1_some {d c : Addr} {H : Hp} {o : HO} (h : Of1 d H c = some o) : c ≠ d ∧ H c = some o := by
  unfold Of1 at h
  split at h
  · cases h
  · rename_i z
    exact ⟨z, h⟩
theorem of1_same {d : Addr} {H H' : Hp} (s : Same H H') : Same (Of1 d H) (Of1 d H') := fun c o h => by
  obtain ⟨h1, h2⟩ := of1_some h
  rw [of1_eq h1]
  exact s c o h2
theorem of1_less (d : Addr) (H : Hp) : Same (Of1 d H) H := fun c o h => (of1_some h).2
structure KpOk (k : Kp) : Prop where
  n8 : Ok8 k.name
  r1 : 1 ≤ k.room
  r12 : k.room ≤ 12
  l12 : k.row.length ≤ 12
  w8 : W8 k.row
structure TmOk (t : Tm) : Prop where
  l0 : 0 ≤ t.least
  l9 : t.least ≤ 9
  k8 : t.ks.length ≤ 8
  ok : ∀ k ∈ t.ks, KpOk k
structure BdOk (bd : List Tm) : Prop where
  t3 : bd.length ≤ 3
  ok : ∀ t ∈ bd, TmOk t
theorem paired_snoc {α β : Type} {F : α → β → Prop} {x : α} {y : β} : ∀ {xs : List α} {ys : List β}, Paired F xs ys → F x y → Paired F (xs ++ [x]) (ys ++ [y])
  | _, _, .nil, h => .cons h .nil
  | _, _, .cons h r, q => .cons h (paired_snoc r q)
theorem paired_app {α β : Type} {F : α → β → Prop} : ∀ {xs zs : List α} {ys ws : List β}, Paired F xs ys → Paired F zs ws → Paired F (xs ++ zs) (ys ++ ws)
  | _, _, _, _, .nil, h => h
  | _, _, _, _, .cons h r, q => .cons h (paired_app r q)
theorem paired_at {α β : Type} {F : α → β → Prop} : ∀ {xs : List α} {ys : List β} {i : Nat} {x : α}, Paired F xs ys → xs[i]? = some x → ∃ y, ys[i]? = some y ∧ F x y
  | _, _, _, _, .nil, e => by simp at e
  | _, _, 0, _, .cons h r, e => ⟨_, rfl, by cases e; exact h⟩
  | _, _, i + 1, _, .cons h r, e => paired_at (i := i) r e
/-- two ways that meet -/
theorem join2 {c : Bool} {ta tb : TE} {σ : L2.St} {H : Hp} {Q : VK} (φ : V → Hp → Prop) (hq : ∀ v H', φ v H' → Q v H')
    (h : (∀ v H', φ v H' → Q v H') → if c = true then ta σ H Q else tb σ H Q) : if c = true then ta σ H Q else tb σ H Q := h hq
/-- a keeper of some names -/
def spKeeper : Sp := fun vs H Q _ => ∃ (b l so : Addr) (n : Str) (ws : List Str), vs = [.ref b, .str n, .ref so] ∧ Bag H b l ∧
  H so = some (.lst (ws.map V.str)) ∧ so ≠ b ∧ so ≠ l ∧ W8 ws ∧ 12 ≤ ws.length ∧ ws.length ≤ 96 ∧ Ok8 n ∧
  ∀ (a : Addr) (k : Kp) (H' : Hp), k.name = n → KpOk k → KpAt (Nw H H') a k → Bag H' b l → Ext b l H H' → Q (.ref a) H'
/-- a board -/
def spBoard : Sp := fun vs H Q _ => ∃ (b l : Addr), vs = [.ref b] ∧ Bag H b l ∧
  ∀ (a : Addr) (bd : List Tm) (H' : Hp), BdOk bd → BdAt (Nw H H') a bd → Bag H' b l → Ext b l H H' → Q (.ref a) H'
theorem Ext.free {b l p : Addr} {H H' : Hp} (x : Ext b l H H') (h : H' p = none) (h1 : p ≠ b) (h2 : p ≠ l) : H p = none := by
  cases q : H p with
  | none => rfl
  | some o =>
    have z := x.get q h1 h2
    rw [h] at z
    cases z
theorem w8_erase {ws : List Str} {j : Nat} (h : W8 ws) : W8 (ws.eraseIdx j) := fun z hz => h z (List.mem_of_mem_eraseIdx hz)
theorem erase_map {α : Type} {f : α → V} : ∀ (l : List α) (j : Nat), (l.map f).eraseIdx j = (l.eraseIdx j).map f
  | [], _ => rfl
  | _ :: _, 0 => rfl
  | a :: r, j + 1 => congrArg (f a :: ·) (erase_map r j)
theorem Bag.tb {H : Hp} {b l : Addr} (B : Bag H b l) : H b ≠ none ∧ H l ≠ none := by
  obtain ⟨i, m, n, h1, _⟩ := B.ob
  obtain ⟨xs, h2, _⟩ := B.ds
  exact ⟨by rw [h1]; simp, by rw [h2]; simp⟩
/-- what was new stays, where draws alone changed -/
theorem nw_ext {b l : Addr} {H H' H'' : Hp} (B : Bag H b l) (x : Ext b l H' H'') : Same (Nw H H') (Nw H H'') := fun c o h => by
  obtain ⟨h1, h2⟩ := nw_some h
  rw [nw_eq h1]
  exact x.get h2 (fun z => B.tb.1 (by rw [← z]; exact h1)) (fun z => B.tb.2 (by rw [← z]; exact h1))
/-- what is new behind a later state is new -/
theorem nw_later {b l : Addr} {H H' H'' : Hp} (B : Bag H b l) (x : Ext b l H H') (B' : Bag H' b l) : Same (Nw H' H'') (Nw H H'') := fun c o h => by
  obtain ⟨h1, h2⟩ := nw_some h
  rw [nw_eq (x.free h1 (B'.nb h1) (B'.nl h1))]
  exact h2
theorem nw_upd {H H' : Hp} {d : Addr} {o : HO} : Same (Of1 d (Nw H H')) (Of1 d (Nw H (upd H' d o))) := fun c u h => by
  obtain ⟨h1, h2⟩ := of1_some h
  obtain ⟨h3, h4⟩ := nw_some h2
  rw [of1_eq h1, nw_eq h3, upd_ne h1]
  exact h4
theorem cut_pre {α : Type} {f : α → V} {xs : List α} {k : Nat} : ∃ ys : List α, cutV (xs.map f) none (some (k : Int)) = ys.map f ∧ ys.length = min k xs.length ∧ ∀ y ∈ ys, y ∈ xs := by
  refine ⟨xs.take k, ?_, List.length_take, fun y hy => List.mem_of_mem_take hy⟩
  unfold cutV
  rw [HT.sIx_none, HT.sIx_nat, List.drop_zero, List.map_take, List.length_map]
  show (xs.map f).take (min k xs.length - 0) = _
  rw [Nat.sub_zero]
  have e : xs.length = (xs.map f).length := (List.length_map _).symm
  rw [e, List.take_eq_take_iff]
  omega
theorem of2_get {f d c : Addr} {H H' : Hp} {u : HO} (h : Of1 f (Of1 d (Nw H H')) c = some u) : c ≠ f ∧ c ≠ d ∧ H c = none ∧ H' c = some u := by
  obtain ⟨h1, h2⟩ := of1_some h
  obtain ⟨h3, h4⟩ := of1_some h2
  obtain ⟨h5, h6⟩ := nw_some h4
  exact ⟨h1, h3, h5, h6⟩
theorem of2_put {f d c : Addr} {H H' : Hp} {u : HO} (h1 : c ≠ f) (h2 : c ≠ d) (h3 : H c = none) (h4 : H' c = some u) : Of1 f (Of1 d (Nw H H')) c = some u := by
  rw [of1_eq h1, of1_eq h2, nw_eq h3]
  exact h4
theorem of3_get {e f d c : Addr} {H H' : Hp} {u : HO} (h : Of1 e (Of1 f (Of1 d (Nw H H'))) c = some u) : c ≠ e ∧ c ≠ f ∧ c ≠ d ∧ H c = none ∧ H' c = some u := by
  obtain ⟨h1, h2⟩ := of1_some h
  exact ⟨h1, of2_get h2⟩
theorem of3_put {e f d c : Addr} {H H' : Hp} {u : HO} (h0 : c ≠ e) (h1 : c ≠ f) (h2 : c ≠ d) (h3 : H c = none) (h4 : H' c = some u) : Of1 e (Of1 f (Of1 d (Nw H H'))) c = some u := by
  rw [of1_eq h0]
  exact of2_put h1 h2 h3 h4
theorem seq_at {n j : Nat} (h : j < n) : seqIndex? (j : Int) n = some j := (ixN_seq (by unfold ixN; simp; omega)).1
end My
/-! pools of unlike names, boards whose keepers are called unlike -/
namespace My
open PySem PySem.Spec PyProof.Rows L2
def spPoolN : Sp := fun vs H Q _ => ∃ (b l : Addr) (c : Int), vs = [.ref b, .int c] ∧ Bag H b l ∧ 0 ≤ c ∧ c ≤ 96 ∧
  ∀ (p : Addr) (ws : List Str) (H' : Hp), H p = none → p ≠ b → p ≠ l → (ws.length : Int) = c → W8 ws → ws.Nodup →
    H' p = some (.lst (ws.map V.str)) → Bag H' b l → Ext b l H H' → Q (.ref p) H'
/-- the place that a name of the pool tells -/
def dg (z : Str) (p : Nat) : Nat := z.cps.toList.getD p 0 - 97
def kap (st c : Int) (z : Str) : Nat := if st = 0 ∧ c < 27 then dg z 0 else if st = 1 then 26 * dg z 6 + dg z 7 else 26 * dg z 0 + dg z 1
theorem kap_nd {κ : Str → Nat} {ws : List Str} (h : ∀ j z, ws[j]? = some z → κ z = j) : ws.Nodup := by
  refine List.pairwise_iff_getElem.mpr fun i j hi hj lt e => ?_
  have a := h i _ (List.getElem?_eq_getElem hi)
  have b := h j _ (List.getElem?_eq_getElem hj)
  rw [e] at a
  omega
theorem kap_snoc {κ : Str → Nat} {ws : List Str} {x : Str} (h : ∀ j z, ws[j]? = some z → κ z = j) (hx : κ x = ws.length) : ∀ j z, (ws ++ [x])[j]? = some z → κ z = j := fun j z e => by
  by_cases lt : j < ws.length
  · rw [List.getElem?_append_left lt] at e
    exact h j z e
  · rw [List.getElem?_append_right (by omega)] at e
    have lt2 := (List.getElem?_eq_some_iff.mp e).1
    rw [List.length_singleton] at lt2
    have ej : j = ws.length := by omega
    subst ej
    rw [Nat.sub_self] at e
    cases e
    exact hx
theorem pick3i {a b c : V} {st : Int} (h0 : 0 ≤ st) (h1 : st < 3) (R : V → Prop) (ha : st = 0 → R a) (hb : st = 1 → R b) (hc : st = 2 → R c) : ∃ v, atI [a, b, c] st = some v ∧ R v := by
  obtain e | e | e : st = 0 ∨ st = 1 ∨ st = 2 := by omega
  · subst e
    exact ⟨a, rfl, ha rfl⟩
  · subst e
    exact ⟨b, rfl, hb rfl⟩
  · subst e
    exact ⟨c, rfl, hc rfl⟩
theorem dg_app {a b : Str} {p : Nat} (h : p < a.cps.toList.length) : dg (a ++ b) p = dg a p := by
  unfold dg
  have e : (a ++ b).cps.toList = a.cps.toList ++ b.cps.toList := by
    show (a.cps ++ b.cps).toList = _
    rw [Array.toList_append]
  rw [e, List.getD_eq_getElem?_getD, List.getD_eq_getElem?_getD, List.getElem?_append_left h]
theorem dg_app2 {a b : Str} {p : Nat} (h : a.cps.toList.length ≤ p) : dg (a ++ b) p = dg b (p - a.cps.toList.length) := by
  unfold dg
  have e : (a ++ b).cps.toList = a.cps.toList ++ b.cps.toList := by
    show (a.cps ++ b.cps).toList = _
    rw [Array.toList_append]
  rw [e, List.getD_eq_getElem?_getD, List.getD_eq_getElem?_getD, List.getElem?_append_right h]
theorem kap1 {a b : Nat} (st c : Int) (h : 97 ≤ b) (e : st = 0) (l : c < 27) : kap st c ⟨#[b]⟩ = b - 97 := by
  unfold kap
  rw [if_pos ⟨e, l⟩]
  rfl
theorem kap2 {a b : Nat} {st c : Int} {u : Str} (hn : ¬ (st = 0 ∧ c < 27)) (h1 : st ≠ 1) : kap st c ((⟨#[a]⟩ ++ ⟨#[b]⟩ : Str) ++ u) = 26 * (a - 97) + (b - 97) := by
  unfold kap
  rw [if_neg hn, if_neg h1, dg_app (a := (⟨#[a]⟩ ++ ⟨#[b]⟩ : Str)) (b := u) (p := 0) (by show 0 < 2; decide), dg_app (a := (⟨#[a]⟩ ++ ⟨#[b]⟩ : Str)) (b := u) (p := 1) (by show 1 < 2; decide)]
  rfl
theorem kap2' {a b : Nat} {st c : Int} (hn : ¬ (st = 0 ∧ c < 27)) (h1 : st ≠ 1) : kap st c (⟨#[a]⟩ ++ ⟨#[b]⟩ : Str) = 26 * (a - 97) + (b - 97) := by
  unfold kap
  rw [if_neg hn, if_neg h1]
  rfl
theorem kap3 {a b : Nat} {st c : Int} (h1 : st = 1) : kap st c (("mnopqr" : Str) ++ (⟨#[a]⟩ ++ ⟨#[b]⟩)) = 26 * (a - 97) + (b - 97) := by
  have l6 : ("mnopqr" : Str).cps.toList.length = 6 := by decide +kernel
  unfold kap
  rw [if_neg (by omega), if_pos h1, dg_app2 (a := "mnopqr") (p := 6) (by omega), dg_app2 (a := "mnopqr") (p := 7) (by omega), l6]
  rfl
/-! ### boards -/
structure BdN (bd : List Tm) : Prop where
  ok : BdOk bd
  nd : ((bd.flatMap (·.ks)).map (·.name)).Nodup
def spBoardN : Sp := fun vs H Q _ => ∃ (b l : Addr), vs = [.ref b] ∧ Bag H b l ∧
  ∀ (a : Addr) (bd : List Tm) (H' : Hp), BdN bd → BdAt (Nw H H') a bd → Bag H' b l → Ext b l H H' → Q (.ref a) H'
theorem pick_perm {α : Type} : ∀ (l : List α) (j : Nat) (h : j < l.length), (l[j] :: l.eraseIdx j).Perm l
  | [], _, h => absurd h (Nat.not_lt_zero _)
  | _ :: _, 0, _ => List.Perm.refl _
  | a :: r, j + 1, h => (List.Perm.swap _ _ _).trans ((pick_perm r j (Nat.lt_of_succ_lt_succ h)).cons a)
theorem nd_pick {ns cs : List Str} {j : Nat} (h : (ns ++ cs).Nodup) (lt : j < cs.length) : ((ns ++ [cs[j]]) ++ cs.eraseIdx j).Nodup := by
  have p : (cs[j] :: cs.eraseIdx j).Perm cs := pick_perm cs j lt
  rw [List.append_assoc, List.singleton_append]
  exact (List.Perm.append_left ns p).nodup_iff.mpr h
theorem cut_nd {α : Type} {f : α → V} {xs : List α} {k : Nat} (h : xs.Nodup) : ∃ ys : List α, cutV (xs.map f) none (some (k : Int)) = ys.map f ∧ ys.length = min k xs.length ∧ (∀ y ∈ ys, y ∈ xs) ∧ ys.Nodup := by
  refine ⟨xs.take k, ?_, List.length_take, fun y hy => List.mem_of_mem_take hy, List.Sublist.nodup (List.take_sublist _ _) h⟩
  unfold cutV
  rw [HT.sIx_none, HT.sIx_nat, List.drop_zero, List.map_take, List.length_map]
  show (xs.map f).take (min k xs.length - 0) = _
  rw [Nat.sub_zero, ← List.length_map (f := f), List.take_eq_take_iff]
  omega
end My
/-! the text by places -/
namespace My
open PySem PySem.Spec PyProof.Rows L2
def top (i : Nat) : Stmt := PySem.Challenge.pw_dimkeepers_k03_what_is_remembered.main.body.getD i (.Pass ⟨0, 0, 0, 0⟩)
abbrev s_keepers_of : Stmt := top 3
abbrev N_keepers_of : List Str := ["board", "team", "keeper"]
abbrev P_keepers_of : List Str := ["board"]
theorem sc_keepers_of : FnScope N_keepers_of P_keepers_of (defScope s_keepers_of) := ⟨rfl, rfl, rfl, by decide +kernel, rfl, by decide +kernel, by decide +kernel⟩
abbrev s_things : Stmt := top 4
abbrev N_things : List Str := ["board", "keeper", "thing"]
abbrev P_things : List Str := ["board"]
theorem sc_things : FnScope N_things P_things (defScope s_things) := ⟨rfl, rfl, rfl, by decide +kernel, rfl, by decide +kernel, by decide +kernel⟩
abbrev s_names : Stmt := top 5
abbrev N_names : List Str := ["board", "keeper"]
abbrev P_names : List Str := ["board"]
theorem sc_names : FnScope N_names P_names (defScope s_names) := ⟨rfl, rfl, rfl, by decide +kernel, rfl, by decide +kernel, by decide +kernel⟩
abbrev s_who : Stmt := top 6
abbrev N_who : List Str := ["board", "thing", "keeper"]
abbrev P_who : List Str := ["board", "thing"]
theorem sc_who : FnScope N_who P_who (defScope s_who) := ⟨rfl, rfl, rfl, by decide +kernel, rfl, by decide +kernel, by decide +kernel⟩
abbrev s_keeper_called : Stmt := top 7
abbrev N_keeper_called : List Str := ["board", "name", "keeper"]
abbrev P_keeper_called : List Str := ["board", "name"]
theorem sc_keeper_called : FnScope N_keeper_called P_keeper_called (defScope s_keeper_called) := ⟨rfl, rfl, rfl, by decide +kernel, rfl, by decide +kernel, by decide +kernel⟩
abbrev s_eldest : Stmt := top 8
abbrev N_eldest : List Str := ["board", "name", "row"]
abbrev P_eldest : List Str := ["board", "name"]
theorem sc_eldest : FnScope N_eldest P_eldest (defScope s_eldest) := ⟨rfl, rfl, rfl, by decide +kernel, rfl, by decide +kernel, by decide +kernel⟩
abbrev s_bag : Stmt := top 10
abbrev N_bag : List Str := ["script", "seed", "cell"]
abbrev P_bag : List Str := ["script"]
theorem sc_bag : FnScope N_bag P_bag (defScope s_bag) := ⟨rfl, rfl, rfl, by decide +kernel, rfl, by decide +kernel, by decide +kernel⟩
abbrev s_draw : Stmt := top 11
abbrev N_draw : List Str := ["bag", "count", "left"]
abbrev P_draw : List Str := ["bag", "count"]
theorem sc_draw : FnScope N_draw P_draw (defScope s_draw) := ⟨rfl, rfl, rfl, by decide +kernel, rfl, by decide +kernel, by decide +kernel⟩
abbrev s_alike : Stmt := top 12
abbrev N_alike : List Str := ["found", "due", "k"]
abbrev P_alike : List Str := ["found", "due"]
theorem sc_alike : FnScope N_alike P_alike (defScope s_alike) := ⟨rfl, rfl, rfl, by decide +kernel, rfl, by decide +kernel, by decide +kernel⟩
abbrev s_pool : Stmt := top 13
abbrev N_pool : List Str := ["bag", "count", "letters", "style", "found", "k", "tail", "word", "sign"]
abbrev P_pool : List Str := ["bag", "count"]
theorem sc_pool : FnScope N_pool P_pool (defScope s_pool) := ⟨rfl, rfl, rfl, by decide +kernel, rfl, by decide +kernel, by decide +kernel⟩
abbrev s_keeper : Stmt := top 14
abbrev N_keeper : List Str := ["bag", "mine", "some", "room", "whole", "left", "row", "k"]
abbrev P_keeper : List Str := ["bag", "mine", "some"]
theorem sc_keeper : FnScope N_keeper P_keeper (defScope s_keeper) := ⟨rfl, rfl, rfl, by decide +kernel, rfl, by decide +kernel, by decide +kernel⟩
abbrev s_board : Stmt := top 15
abbrev N_board : List Str := ["bag", "some", "called", "found", "left", "t", "count", "keepers", "k"]
abbrev P_board : List Str := ["bag"]
theorem sc_board : FnScope N_board P_board (defScope s_board) := ⟨rfl, rfl, rfl, by decide +kernel, rfl, by decide +kernel, by decide +kernel⟩
abbrev s_all : Stmt := top 16
abbrev N_all : List Str := ["slate", "found", "least", "keepers"]
abbrev P_all : List Str := ["slate"]
theorem sc_all : FnScope N_all P_all (defScope s_all) := ⟨rfl, rfl, rfl, by decide +kernel, rfl, by decide +kernel, by decide +kernel⟩
abbrev s_walked : Stmt := top 17
abbrev N_walked : List Str := ["slate", "some", "keeper"]
abbrev P_walked : List Str := ["slate"]
theorem sc_walked : FnScope N_walked P_walked (defScope s_walked) := ⟨rfl, rfl, rfl, by decide +kernel, rfl, by decide +kernel, by decide +kernel⟩
abbrev s_right : Stmt := top 18
abbrev N_right : List Str := ["slate", "kept", "due", "found", "one", "there", "told_one", "mine", "room", "whole", "row", "first", "keeper"]
abbrev P_right : List Str := ["slate"]
theorem sc_right : FnScope N_right P_right (defScope s_right) := ⟨rfl, rfl, rfl, by decide +kernel, rfl, by decide +kernel, by decide +kernel⟩
abbrev s_law : Stmt := top 19
abbrev N_law : List Str := ["script", "bag", "turn"]
abbrev P_law : List Str := ["script"]
theorem sc_law : FnScope N_law P_law (defScope s_law) := ⟨rfl, rfl, rfl, by decide +kernel, rfl, by decide +kernel, by decide +kernel⟩
structure Ad where
  f_keepers_of : Addr
  d_keepers_of : FuncData
  f_things : Addr
  d_things : FuncData
  f_names : Addr
  d_names : FuncData
  f_who : Addr
  d_who : FuncData
  f_keeper_called : Addr
  d_keeper_called : FuncData
  f_eldest : Addr
  d_eldest : FuncData
  f_bag : Addr
  d_bag : FuncData
  f_draw : Addr
  d_draw : FuncData
  f_alike : Addr
  d_alike : FuncData
  f_pool : Addr
  d_pool : FuncData
  f_keeper : Addr
  d_keeper : FuncData
  f_board : Addr
  d_board : FuncData
  f_all : Addr
  d_all : FuncData
  f_walked : Addr
  d_walked : FuncData
  f_right : Addr
  d_right : FuncData
  c_NoKeeper : Addr
structure Txt (K : PySem.W.Frag) (mg : Str → Option Value) (A : Ad) : Prop where
  F_keepers_of : Fun K "keepers_of" "keepers_of" s_keepers_of A.f_keepers_of A.d_keepers_of
  g_keepers_of : mg "keepers_of" = some (.ref A.f_keepers_of)
  b_keepers_of : Binds K A.d_keepers_of P_keepers_of []
  F_things : Fun K "things" "things" s_things A.f_things A.d_things
  g_things : mg "things" = some (.ref A.f_things)
  b_things : Binds K A.d_things P_things []
  F_names : Fun K "names" "names" s_names A.f_names A.d_names
  g_names : mg "names" = some (.ref A.f_names)
  b_names : Binds K A.d_names P_names []
  F_who : Fun K "who" "who" s_who A.f_who A.d_who
  g_who : mg "who" = some (.ref A.f_who)
  b_who : Binds K A.d_who P_who []
  F_keeper_called : Fun K "keeper_called" "keeper_called" s_keeper_called A.f_keeper_called A.d_keeper_called
  g_keeper_called : mg "keeper_called" = some (.ref A.f_keeper_called)
  b_keeper_called : Binds K A.d_keeper_called P_keeper_called []
  F_eldest : Fun K "eldest" "eldest" s_eldest A.f_eldest A.d_eldest
  g_eldest : mg "eldest" = some (.ref A.f_eldest)
  b_eldest : Binds K A.d_eldest P_eldest []
  F_bag : Fun K "_law_bag" "_law_bag" s_bag A.f_bag A.d_bag
  g_bag : mg "_law_bag" = some (.ref A.f_bag)
  b_bag : Binds K A.d_bag P_bag []
  F_draw : Fun K "_law_draw" "_law_draw" s_draw A.f_draw A.d_draw
  g_draw : mg "_law_draw" = some (.ref A.f_draw)
  b_draw : Binds K A.d_draw P_draw []
  F_alike : Fun K "_law_alike" "_law_alike" s_alike A.f_alike A.d_alike
  g_alike : mg "_law_alike" = some (.ref A.f_alike)
  b_alike : Binds K A.d_alike P_alike []
  F_pool : Fun K "_law_pool" "_law_pool" s_pool A.f_pool A.d_pool
  g_pool : mg "_law_pool" = some (.ref A.f_pool)
  b_pool : Binds K A.d_pool P_pool []
  F_keeper : Fun K "_law_keeper" "_law_keeper" s_keeper A.f_keeper A.d_keeper
  g_keeper : mg "_law_keeper" = some (.ref A.f_keeper)
  b_keeper : Binds K A.d_keeper P_keeper []
  F_board : Fun K "_law_board" "_law_board" s_board A.f_board A.d_board
  g_board : mg "_law_board" = some (.ref A.f_board)
  b_board : Binds K A.d_board P_board []
  F_all : Fun K "_law_all" "_law_all" s_all A.f_all A.d_all
  g_all : mg "_law_all" = some (.ref A.f_all)
  b_all : Binds K A.d_all P_all []
  F_walked : Fun K "_law_walked" "_law_walked" s_walked A.f_walked A.d_walked
  g_walked : mg "_law_walked" = some (.ref A.f_walked)
  b_walked : Binds K A.d_walked P_walked []
  F_right : Fun K "_law_right" "_law_right" s_right A.f_right A.d_right
  g_right : mg "_law_right" = some (.ref A.f_right)
  b_right : Binds K A.d_right P_right []
  n_len : mg "len" = none
  n_abs : mg "abs" = none
  n_int : mg "int" = none
  n_list : mg "list" = none
  n_range : mg "range" = none
  n_repr : mg "repr" = none
  n_isinstance : mg "isinstance" = none
  n_sorted : mg "sorted" = none
  n_set : mg "set" = none
  n_all : mg "all" = none
  n_tuple : mg "tuple" = none
  n_bool : mg "bool" = none
  n_str : mg "str" = none
  g_NoKeeper : mg "NoKeeper" = some (.ref A.c_NoKeeper)
  x_NoKeeper : PySem.W.excIn K A.c_NoKeeper [.type "LookupError", .type "Exception", .type "BaseException", .type "object"] "LookupError.__new__" = true
  k_NoKeeper : PySem.W.keepIn K (.ref A.c_NoKeeper) = true
  bx_NoKeeper : PySem.W.subIn K (.ref A.c_NoKeeper) (.type "BaseException") = some true
  tx_NoKeeper : PySem.W.typeIn K (.ref A.c_NoKeeper) = some (.type "type")
section
variable {K : PySem.W.Frag} {mg : Str → Option Value} {A : Ad}
theorem kb_things (T : Txt K mg A) : KBinds K A.d_things P_things ["board"] kw1 kw1 :=
  fun_kb T.F_things (fun kV doc pm an cdv ct us ws hl => match us, ws, hl with | [], [_], _ => rfl) kw1_rel
theorem kb_names (T : Txt K mg A) : KBinds K A.d_names P_names ["board"] kw1 kw1 :=
  fun_kb T.F_names (fun kV doc pm an cdv ct us ws hl => match us, ws, hl with | [], [_], _ => rfl) kw1_rel
theorem kb_who (T : Txt K mg A) : KBinds K A.d_who P_who ["thing", "board"] kw2 kw2 :=
  fun_kb T.F_who (fun kV doc pm an cdv ct us ws hl => match us, ws, hl with | [], [_, _], _ => rfl) kw2_rel
theorem kb_eldest (T : Txt K mg A) : KBinds K A.d_eldest P_eldest ["name", "board"] kw2 kw2 :=
  fun_kb T.F_eldest (fun kV doc pm an cdv ct us ws hl => match us, ws, hl with | [], [_, _], _ => rfl) kw2_rel
end
end My
namespace My
open PySem PySem.Spec PyProof.Rows L2
theorem draw_mod {x c : Int} (h0 : 0 ≤ x) (h : 0 < c) : 0 ≤ x.fmod c ∧ x.fmod c < c := by
  rw [Int.fmod_eq_emod_of_nonneg x (by omega)]
  exact ⟨Int.emod_nonneg x (by omega), Int.emod_lt_of_pos x h⟩
theorem draw_div {x c : Int} (h0 : 0 ≤ x) (h : 0 < c) : 0 ≤ x.fdiv c := by
  rw [Int.fdiv_eq_ediv_of_nonneg x (by omega)]
  exact Int.ediv_nonneg h0 (by omega)
section
variable {P : Program} {w : World} {K : PySem.W.Frag} {mg : Str → Option Value} {base : Heap} {A : Ad}
theorem ok_draw (T : Txt K mg A) : FnOk P w K mg base CX0 1 A.f_draw A.d_draw P_draw spDraw := by
  refine T.F_draw.ok sc_draw (fun vs H Q E h => ?_) (fun cdv A' outer s H vs Q E hr h => ?_)
  · obtain ⟨b, l, c, rfl, _⟩ := h
    rfl
  · obtain ⟨b, l, c, rfl, B, c0, c1, k⟩ := h
    refine ⟨_, (pss_cons (ps_while PassesOwn.never (PW.pt (pw_and (pt_cmpR op_lt (pe_ix (ix_listK (K := K) rfl) (pv 0) pe_int (fun _ _ => rfl)) (pe_callB (len_seqK (K := K) rfl) (by rfl) T.n_len PySem.boot_len (pa_cons (pe_ix (ix_listK (K := K) rfl) (pv 0) pe_int (fun _ _ => rfl)) pa_nil)) (nomark _)) (pw_and1 (pt_cmpR op_eq (pe_ix (ix_listK (K := K) rfl) (pe_ix (ix_listK (K := K) rfl) (pv 0) pe_int (fun _ _ => rfl)) (pe_ix (ix_listK (K := K) rfl) (pv 0) pe_int (fun _ _ => rfl)) (fun _ _ => rfl)) pe_int (nomark _)))))
      (pss_one (ps_asg (pe_op op_add (pe_ix (ix_listK (K := K) rfl) (pv 0) pe_int (fun _ _ => rfl)) pe_int) (pg_sub (pv 0) pe_int set_list))))
    (pss_cons (ps_if (pt_cmpR op_lt (pe_ix (ix_listK (K := K) rfl) (pv 0) pe_int (fun _ _ => rfl)) (pe_callB (len_seqK (K := K) rfl) (by rfl) T.n_len PySem.boot_len (pa_cons (pe_ix (ix_listK (K := K) rfl) (pv 0) pe_int (fun _ _ => rfl)) pa_nil)) (nomark _))
      (pss_cons (ps_set (i := 2) sc_draw.nd rfl (Or.inl rfl) (pe_ix (ix_listK (K := K) rfl) (pe_ix (ix_listK (K := K) rfl) (pv 0) pe_int (fun _ _ => rfl)) (pe_ix (ix_listK (K := K) rfl) (pv 0) pe_int (fun _ _ => rfl)) (fun _ _ => rfl)))
      (pss_cons (ps_asg (pe_op op_fdivN (pv 2) (pv 1)) (pg_sub (pe_ix (ix_listK (K := K) rfl) (pv 0) pe_int (fun _ _ => rfl)) (pe_ix (ix_listK (K := K) rfl) (pv 0) pe_int (fun _ _ => rfl)) set_list))
      (pss_one (ps_ret (pe_op op_modN (pv 2) (pv 1))))))
      pss_nil)
    (pss_cons (ps_asg (pe_op op_add (pe_ix (ix_listK (K := K) rfl) (pv 0) pe_int (fun _ _ => rfl)) pe_int) (pg_sub (pv 0) pe_int set_list))
    (pss_cons (ps_asg (pe_op op_modN (pe_op op_add (pe_op op_add (pe_op op_add (pe_op op_powW (pe_ix (ix_listK (K := K) rfl) (pv 0) pe_int (fun _ _ => rfl)) pe_int) (pe_op op_mul pe_int (pe_ix (ix_listK (K := K) rfl) (pv 0) pe_int (fun _ _ => rfl)))) (pe_op op_mul pe_int (pe_ix (ix_listK (K := K) rfl) (pv 0) pe_int (fun _ _ => rfl)))) pe_int) (pe_op op_sub (pe_op op_powW pe_int pe_int) pe_int)) (pg_sub (pv 0) pe_int set_list))
    (pss_one (ps_ret (pe_op op_modN (pe_op op_fdivN (pe_ix (ix_listK (K := K) rfl) (pv 0) pe_int (fun _ _ => rfl)) pe_int) (pv 1)))))))), ?_⟩
    obtain ⟨⟨i0, m, n, hb, m0, m1⟩, ⟨xs, hl, hx⟩, ne⟩ := B
    refine ⟨fun j σ H1 => ∃ i : Nat, j = xs.length - i ∧ σ = [some (.ref b), some (.int c), none] ∧
      H1 b = some (.lst [.ref l, .int i, .int m, .int n]) ∧ H1 l = some (.lst (xs.map V.int)) ∧ Ext b l H H1,
      ⟨_, i0, rfl, rfl, hb, hl, Ext.refl _ _ _⟩, ?_⟩
    rintro j σ H1 ⟨i, rfl, rfl, hb1, hl1, x1⟩
    -- bag[1] < len(bag[0])
    refine ⟨_, rfl, _, _, _, _, rfl, rfl, SqL.of hb1, rfl, _, rfl, _, _, _, _, rfl, rfl, SqL.of hb1, rfl, l, _, rfl, .inl (SqL.of hl1), _, _, rfl, rfl, _, rfl, ?_⟩
    have li : (xs.map V.int).length = xs.length := List.length_map _
    by_cases lt : i < xs.length
    · obtain ⟨x, hxi⟩ : ∃ x, xs[i]? = some x := ⟨xs[i], List.getElem?_eq_getElem lt⟩
      have x0 : 0 ≤ x := hx x (List.mem_of_getElem? hxi)
      have it : (xs.map V.int)[i]? = some (V.int x) := map_at hxi
      rw [decide_eq_true (show (i : Int) < ((xs.map V.int).length : Nat) by rw [li]; omega)]
      refine iteT ?_
      refine ⟨_, rfl, _, _, _, _, rfl, rfl, SqL.of hb1, rfl, _, rfl, _, _, _, _, rfl, rfl, SqL.of hb1, rfl, l, _, _, _, rfl, rfl, SqL.of hl1, atI_nat it, rfl, _, rfl, ?_⟩
      by_cases z : x = 0
      · subst z
        refine iteT ?_
        refine ⟨fun σ2 H2 => σ2 = [some (.ref b), some (.int c), none] ∧ H2 b = some (.lst [.ref l, .int ((i + 1 : Nat) : Int), .int m, .int n]) ∧ H2 l = some (.lst (xs.map V.int)) ∧ Ext b l H H2, ?_, ?_⟩
        · rintro σ2 H2 ⟨e, h2, h3, h4⟩
          exact ⟨_, by omega, i + 1, rfl, e, h2, h3, h4⟩
        · refine ⟨_, rfl, _, _, _, _, rfl, rfl, SqL.of hb1, rfl, _, _, rfl, rfl, _, rfl, _, _, _, _, rfl, rfl, hb1, rfl, ?_⟩
          exact ⟨rfl, upd_same, by rw [upd_ne ne.symm]; exact hl1, x1.trans Ext.at_b⟩
      · have z' : decide (V.int x = V.int 0) = false := decide_eq_false fun e => z (V.int.inj e)
        rw [z']
        refine iteF ?_
        -- a digit
        refine ⟨_, rfl, _, _, _, _, rfl, rfl, SqL.of hb1, rfl, _, rfl, _, _, _, _, rfl, rfl, SqL.of hb1, rfl, l, _, rfl, .inl (SqL.of hl1), _, _, rfl, rfl, _, rfl, ?_⟩
        rw [decide_eq_true (show (i : Int) < ((xs.map V.int).length : Nat) by rw [li]; omega)]
        refine iteT ?_
        refine ⟨_, rfl, _, _, _, _, rfl, rfl, SqL.of hb1, rfl, _, rfl, _, _, _, _, rfl, rfl, SqL.of hb1, rfl, l, _, _, _, rfl, rfl, SqL.of hl1, atI_nat it, ?_⟩
        refine ⟨_, rfl, _, rfl, x, c, rfl, rfl, ⟨by omega, by omega⟩, ?_⟩
        refine ⟨_, rfl, _, _, _, _, rfl, rfl, SqL.of hb1, rfl, _, rfl, _, _, _, _, rfl, rfl, SqL.of hb1, rfl, l, _, (i : Int), i, rfl, rfl, hl1, by unfold ixN; rw [li]; simp; omega, ?_⟩
        refine ⟨_, rfl, _, rfl, x, c, rfl, rfl, by omega, ?_⟩
        obtain ⟨r0, r1⟩ := draw_mod x0 c0
        refine k _ _ r0 r1 ⟨⟨i, m, n, by rw [upd_ne ne]; exact hb1, m0, m1⟩, ⟨xs.set i (x.fdiv c), ?_, ?_⟩, ne⟩ (x1.trans Ext.at_l)
        · rw [upd_same, List.map_set]
        · intro y hy
          rcases List.mem_or_eq_of_mem_set hy with hy | hy
          · exact hx y hy
          · rw [hy]
            exact draw_div x0 c0
    · rw [decide_eq_false (show ¬ (i : Int) < ((xs.map V.int).length : Nat) by rw [li]; omega)]
      refine iteF ?_
      refine iteF ?_
      -- stirred
      refine ⟨_, rfl, _, _, _, _, rfl, rfl, SqL.of hb1, rfl, _, rfl, _, _, _, _, rfl, rfl, SqL.of hb1, rfl, l, _, rfl, .inl (SqL.of hl1), _, _, rfl, rfl, _, rfl, ?_⟩
      rw [decide_eq_false (show ¬ (i : Int) < ((xs.map V.int).length : Nat) by rw [li]; omega)]
      refine iteF ?_
      refine ⟨_, rfl, _, _, _, _, rfl, rfl, SqL.of hb1, rfl, _, _, rfl, rfl, _, rfl, _, _, _, _, rfl, rfl, hb1, rfl, ?_⟩
      have hb2 : (upd H1 b (.lst ([V.ref l, .int i, .int m, .int n].set 3 (.int (n + 1))))) b = some (.lst [V.ref l, .int i, .int m, .int (n + 1)]) := upd_same
      have ms : (Builtin.Int.intBits m : Int) * 3 ≤ 2 ^ 27 := by
        have q : Builtin.Int.intBits m ≤ 64 := by
          unfold Builtin.Int.intBits
          split
          · decide
          · have z : m.natAbs.log2 < 64 := PySem.Flt.log2_lt_of (by decide) (by omega)
            omega
        omega
      refine ⟨_, rfl, _, _, _, _, rfl, rfl, SqL.of hb2, rfl, m, 3, rfl, rfl, ⟨by decide, ms⟩, ?_⟩
      refine ⟨_, rfl, _, _, _, _, rfl, rfl, SqL.of hb2, rfl, _, m, rfl, rfl, .inl ⟨by decide, by decide⟩, _, _, rfl, rfl, ?_⟩
      refine ⟨_, rfl, _, _, _, _, rfl, rfl, SqL.of hb2, rfl, _, _, rfl, rfl, .inl ⟨by decide, by decide⟩, _, _, rfl, rfl, ?_⟩
      refine ⟨_, _, rfl, rfl, 2, 61, rfl, rfl, ⟨by decide, by decide⟩, _, _, rfl, rfl, _, _, rfl, rfl, (show (2 : Int) ^ (61 : Int).toNat - 1 ≠ 0 by decide), ?_⟩
      refine ⟨_, rfl, _, _, _, _, rfl, rfl, hb2, rfl, ?_⟩
      have hb3 : ∀ v, (upd (upd H1 b (.lst ([V.ref l, .int i, .int m, .int n].set 3 (.int (n + 1))))) b (.lst ([V.ref l, .int i, .int m, .int (n + 1)].set 2 v))) b = some (.lst [V.ref l, .int i, v, .int (n + 1)]) := fun v => upd_same
      refine ⟨_, rfl, _, _, _, _, rfl, rfl, SqL.of (hb3 _), rfl, _, _, rfl, rfl, ⟨by decide, by decide⟩, _, rfl, _, c, rfl, rfl, by omega, ?_⟩
      have big : (2 : Int) ^ (61 : Int).toNat - 1 = 2305843009213693951 := by decide
      have s0 : ∀ z : Int, 0 ≤ z.fmod ((2 : Int) ^ (61 : Int).toNat - 1) ∧ z.fmod ((2 : Int) ^ (61 : Int).toNat - 1) < 2305843009213693951 := fun z => by
        rw [big, Int.fmod_eq_emod_of_nonneg z (by decide)]
        exact ⟨Int.emod_nonneg z (by decide), Int.emod_lt_of_pos z (by decide)⟩
      obtain ⟨q0, q1⟩ := s0 (m ^ (3 : Int).toNat + 48271 * m + 2039 * (n + 1) + 7)
      obtain ⟨r0, r1⟩ := draw_mod (draw_div q0 (show (0 : Int) < 1024 by decide)) c0
      refine k _ _ r0 r1 ⟨⟨i, _, n + 1, hb3 _, q0, q1⟩, ⟨xs, ?_, hx⟩, ne⟩ ((x1.trans Ext.at_b).trans Ext.at_b)
      rw [upd_ne ne.symm, upd_ne ne.symm]
      exact hl1
end
end My
namespace My
open PySem PySem.Spec PyProof.Rows L2
section
variable {P : Program} {w : World} {K : PySem.W.Frag} {mg : Str → Option Value} {base : Heap} {A : Ad}
theorem ok_bag (T : Txt K mg A) : FnOk P w K mg base CX0 1 A.f_bag A.d_bag P_bag (spBag K) := by
  refine T.F_bag.ok sc_bag (fun vs H Q E h => ?_) (fun cdv A' outer s H vs Q E hr h => ?_)
  · obtain ⟨a, ns, rfl, _⟩ := h
    rfl
  · obtain ⟨a, ns, rfl, hS, n63, k⟩ := h
    refine ⟨_, (pss_cons (ps_set (i := 1) sc_bag.nd rfl (Or.inl rfl) pe_int)
    (pss_cons (ps_for PassesOwn.never rfl (pi_listK (K := K) rfl (pe_slice (sl_listK (K := K) rfl) (pv 0) po_none (po_some pe_int))) (pg_name (i := 2) sc_bag.nd rfl (Or.inl rfl))
      (pss_one (ps_set (i := 1) sc_bag.nd rfl (Or.inl rfl) (pe_op op_modN (pe_op op_add (pe_op op_add (pe_op op_mul (pv 1) pe_int) (pe_op op_modN (pv 2) pe_int)) pe_int) (pe_op op_sub (pe_op op_powW pe_int pe_int) pe_int)))))
    (pss_one (ps_ret (pe_lst (pa_cons (pe_lc (own := [("cell", 2)]) (tt := tYes) (g := (gName 2)) rfl sc_bag.nd (pi_listK (K := K) rfl (pe_slice (sl_listK (K := K) rfl) (pv 0) po_none (po_some pe_int))) (blkOk_by (own := [("cell", 2)]) (N := N_bag) (sc := defScope s_bag) (by decide +kernel)) (fun _ _ _ _ _ => (pg_name (i := 2) sc_bag.nd rfl (Or.inl rfl))) (fun _ _ _ _ _ => pts_nil) (fun _ _ _ _ _ => by exact (pe_op op_modN (pe_callB call_abs (by rfl) T.n_abs (by decide +kernel) (pa_cons (pv 2) pa_nil)) (pe_op op_powW (pe_op op_powW pe_int pe_int) pe_int)))) (pa_cons pe_int (pa_cons (pv 1) (pa_cons pe_int pa_nil))))))))), ?_⟩
    obtain ⟨ys, ey, yl, _⟩ := cut_map (f := V.int) (xs := ns) (lo := none) (hi := some 60)
    -- for cell in script[:60]
    refine ⟨_, rfl, _, rfl, a, _, rfl, hS, fun p np => ?_⟩
    rw [ey]
    have s0 : Same H (upd H p (.lst (ys.map V.int))) := same_new np
    refine ⟨p, rfl, ⟨_, SqL.of upd_same⟩, for_list (K := K) (a := p) (xs := ys.map V.int) (fun i σ H' => H' = upd H p (.lst (ys.map V.int)) ∧ ∃ (m : Int) (v : Option V), σ = [some (.ref a), some (.int m), v] ∧ 0 ≤ m ∧ m < 2305843009213693951)
      ⟨rfl, 29, none, rfl, by decide, by decide⟩ (fun i σ H' _ z => by rw [z.1]; exact SqL.of upd_same) ?_ ?_⟩
    · rintro i y σ H' hi ⟨rfl, m, v, rfl, m0, m1⟩
      obtain ⟨z, hz, rfl⟩ := item_int hi
      have big : (2 : Int) ^ (61 : Int).toNat - 1 = 2305843009213693951 := by decide
      refine ⟨_, rfl, m, _, rfl, rfl, .inr ⟨by decide, by decide⟩, _, rfl, z, _, rfl, rfl, (show (2305843009213693921 : Int) ≠ 0 by decide), _, _, rfl, rfl, _, _, rfl, rfl, 2, 61, rfl, rfl, ⟨by decide, by decide⟩, _, _, rfl, rfl, _, _, rfl, rfl, (show (2 : Int) ^ (61 : Int).toNat - 1 ≠ 0 by decide), ?_⟩
      refine ⟨rfl, _, _, rfl, ?_, ?_⟩
      · rw [big, Int.fmod_eq_emod_of_nonneg _ (by decide)]
        exact Int.emod_nonneg _ (by decide)
      · rw [big, Int.fmod_eq_emod_of_nonneg _ (by decide)]
        exact Int.emod_lt_of_pos _ (by decide)
    · rintro σ H' ⟨rfl, m, v, rfl, m0, m1⟩
      -- [[..], 0, seed, 0]
      refine ⟨_, rfl, _, rfl, a, _, rfl, s0.seq hS, fun p2 np2 => ?_⟩
      rw [ey]
      have s1 := s0.trans (same_new (o := .lst (ys.map V.int)) np2)
      refine ⟨p2, rfl, ⟨_, SqL.of upd_same⟩, fun l nl => ?_⟩
      have l0 : H l = none := (s1.trans (Same.refl _)).free nl
      have nlp2 : p2 ≠ l := ne_of_none upd_same nl
      refine lc_list (K := K) (a := p2) (xs := ys.map V.int) (fun i H' => H' p2 = some (.lst (ys.map V.int)) ∧ Same H H' ∧ ∃ xs : List Int, H' l = some (.lst (xs.map V.int)) ∧ xs.length = i ∧ ∀ x ∈ xs, 0 ≤ x)
        ⟨by rw [upd_ne nlp2]; exact upd_same, same_over s1 l0, [], upd_same, rfl, by simp⟩ (fun i H' _ z => SqL.of z.1) ?_ ?_
      · rintro i y H' hi ⟨hp2, sm, xs, hl, en, hx⟩
        obtain ⟨z, hz, rfl⟩ := item_int hi
        have il := (List.getElem?_eq_some_iff.mp hz).1
        have ten : (10 : Int) ^ (60 : Int).toNat = 10 ^ 60 := rfl
        have fit : PowFit ((10 : Int) ^ (60 : Int).toNat) 10 := ⟨by decide, by decide +kernel⟩
        have ne0 : ((10 : Int) ^ (60 : Int).toNat) ^ (10 : Int).toNat ≠ 0 := by decide +kernel
        refine ⟨rfl, ?_⟩
        refine ⟨_, rfl, z, rfl, 10, 60, rfl, rfl, ⟨by decide, by decide⟩, _, 10, rfl, rfl, fit, _, _, rfl, rfl, ne0, ?_⟩
        refine ⟨_, hl, by rw [List.length_map, en]; exact lt_size il (by omega), by rw [upd_ne nlp2]; exact hp2, same_over sm l0, xs ++ [(if z < 0 then -z else z).fmod (((10 : Int) ^ (60 : Int).toNat) ^ (10 : Int).toNat)], ?_, by rw [List.length_append, en]; rfl, ?_⟩
        · rw [upd_same, List.map_append]
          rfl
        · intro x h
          rcases List.mem_append.mp h with h | h
          · exact hx x h
          · cases List.mem_singleton.mp h
            rw [Int.fmod_eq_emod_of_nonneg _ (by decide +kernel)]
            exact Int.emod_nonneg _ ne0
      · rintro H' ⟨hp2, sm, xs, hl, en, hx⟩
        refine ⟨_, rfl, (show 4 ≤ sizeLine by decide), fun b nb => ?_⟩
        refine k b l _ (sm.free nb) l0 ⟨⟨0, m, 0, upd_same, m0, m1⟩, ⟨xs, by rw [upd_ne (ne_of_none hl nb)]; exact hl, hx⟩, (ne_of_none hl nb).symm⟩ (same_over sm (sm.free nb))
end
end My
namespace My
open PySem PySem.Spec PyProof.Rows L2
def abc : Str := "abcdefghijklmnopqrstuvwxyz"
theorem abc_at {z : Int} (h0 : 0 ≤ z) (h1 : z < 26) : ∃ c, atI abc.cps.toList z = some c ∧ c < 128 ∧ c = 97 + z.toNat := by
  obtain ⟨n, rfl⟩ := Int.eq_ofNat_of_zero_le h0
  have l : abc.cps.toList.length = 26 := by decide +kernel
  have ln : n < abc.cps.toList.length := by rw [l]; omega
  have all : ∀ c ∈ abc.cps.toList, c < 128 := by decide +kernel
  have val : ∀ m (h : m < abc.cps.toList.length), abc.cps.toList[m] = 97 + m := by decide +kernel
  exact ⟨_, atI_nat (List.getElem?_eq_getElem ln), all _ (List.getElem_mem ln), val n ln⟩
theorem pick3 {a b c : V} {st : Int} (h0 : 0 ≤ st) (h1 : st < 3) (R : V → Prop) (ha : R a) (hb : R b) (hc : R c) : ∃ v, atI [a, b, c] st = some v ∧ R v := by
  obtain e | e | e : st = 0 ∨ st = 1 ∨ st = 2 := by omega
  · subst e
    exact ⟨a, rfl, ha⟩
  · subst e
    exact ⟨b, rfl, hb⟩
  · subst e
    exact ⟨c, rfl, hc⟩
section
variable {P : Program} {w : World} {K : PySem.W.Frag} {mg : Str → Option Value} {base : Heap} {A : Ad}
theorem ok_pool (T : Txt K mg A) : FnOk P w K mg base CX0 2 A.f_pool A.d_pool P_pool spPoolN := by
  refine T.F_pool.ok sc_pool (fun vs H Q E h => ?_) (fun cdv A' outer s H vs Q E hr h => ?_)
  · obtain ⟨b, l, c, rfl, _⟩ := h
    rfl
  · obtain ⟨b, l, c, rfl, B, c0, c1, k⟩ := h
    refine ⟨_, (pss_cons (ps_set (i := 2) sc_pool.nd rfl (Or.inr rfl) pe_str)
    (pss_cons (ps_set (i := 3) sc_pool.nd rfl (Or.inl rfl) (pe_call (ok_draw T) (hr.mono (by decide)) rfl T.g_draw T.F_draw.kp T.b_draw .nil pass0 (pa_cons (pv 0) (pa_cons pe_int pa_nil))))
    (pss_cons (ps_set (i := 4) sc_pool.nd rfl (Or.inl rfl) (pe_lst pa_nil))
    (pss_cons (ps_for PassesOwn.never rfl (pi_range1 (by rfl) T.n_range (pa_cons (pv 1) pa_nil)) (pg_name (i := 5) sc_pool.nd rfl (Or.inl rfl))
      (pss_cons (ps_set (i := 6) sc_pool.nd rfl (Or.inl rfl) (pe_op op_add_str (pe_ix ix_str (pv 2) (pe_op op_fdivN (pv 5) pe_int) (fun _ _ => rfl)) (pe_ix ix_str (pv 2) (pe_op op_modN (pv 5) pe_int) (fun _ _ => rfl))))
      (pss_cons (ps_set (i := 7) sc_pool.nd rfl (Or.inl rfl) (pe_join pe_str (pe_lc (own := [("sign", 8)]) (tt := tYes) (g := (gName 8)) rfl sc_pool.nd (pi_range1 (by rfl) T.n_range (pa_cons (pe_op op_mul (pe_call (ok_draw T) (hr.mono (by decide)) rfl T.g_draw T.F_draw.kp T.b_draw .nil pass0 (pa_cons (pv 0) (pa_cons pe_int pa_nil))) (pe_callTy call_int1 (by rfl) T.n_int (by decide +kernel) (pa_cons (pe_cmpR op_eq (pv 3) pe_int (nomark _)) pa_nil))) pa_nil)) (blkOk_by (own := [("sign", 8)]) (N := N_pool) (sc := defScope s_pool) (by decide +kernel)) (fun _ _ _ _ _ => (pg_name (i := 8) sc_pool.nd rfl (Or.inl rfl))) (fun _ _ _ _ _ => pts_nil) (fun _ _ _ _ _ => by exact (pe_ix ix_str (pv 2) (pe_call (ok_draw T) (hr.mono (by decide)) rfl T.g_draw T.F_draw.kp T.b_draw .nil pass0 (pa_cons (pv 0) (pa_cons pe_int pa_nil))) (fun _ _ => rfl))))))
      (pss_one (ps_expr (pe_K (K := K) rfl (pe_bm PySem.F.plainAttrs_list PySem.F.slot_list_append PySem.F.type_list_append mt_append (by exact (pv 4)) (by exact (pa_cons (pe_ix (ix_listK (K := K) rfl) (pe_lst (pa_cons (pe_ifExp (pt_cmpR op_lt (pv 1) pe_int (nomark _)) (pe_ix ix_str (pv 2) (pe_op op_modN (pv 5) pe_int) (fun _ _ => rfl)) (pv 6)) (pa_cons (pe_op op_add_str pe_str (pv 6)) (pa_cons (pe_op op_add_str (pv 6) (pv 7)) pa_nil)))) (pv 3) (fun _ _ => rfl)) pa_nil)))))))))
    (pss_one (ps_ret (pv 4))))))), ?_⟩
    -- letters; style; found
    refine ⟨_, rfl, b, l, 3, rfl, B, by decide, by decide, fun st H1 s0 s1 B1 x1 => ?_⟩
    refine ⟨(show 0 ≤ sizeLine by decide), fun p np => ?_⟩
    have pb := B1.nb np
    have pl := B1.nl np
    have np0 : H p = none := by
      cases q : H p with
      | none => rfl
      | some o =>
        have z := x1.get q pb pl
        rw [np] at z
        cases z
    refine ⟨_, rfl, c, rfl, by omega, by omega, for_range (lo := 0) (n := c.toNat) (fun i σ H' => ∃ v5 v6 v7 v8, σ = [some (.ref b), some (.int c), some (.str abc), some (.int st), some (.ref p), v5, v6, v7, v8] ∧
      Bag H' b l ∧ Ext b l H H' ∧ ∃ ws : List Str, H' p = some (.lst (ws.map V.str)) ∧ ws.length = i ∧ W8 ws ∧ ∀ j z, ws[j]? = some z → kap st c z = j)
      ⟨none, none, none, none, rfl, B1.put pb pl, x1.over np0, [], upd_same, rfl, w8_nil, by intro j z e; simp at e⟩ ?_ ?_⟩
    · rintro i σ H2 hi ⟨v5, v6, v7, v8, rfl, B2, x2, ws, h2, wl, w8, kk⟩
      have hi' : (i : Int) < c := by omega
      obtain ⟨q1, e1, lo1, va1⟩ := abc_at (z := (0 + (i : Int)).fdiv 26) (draw_div (by omega) (by decide)) (by
        rw [Int.fdiv_eq_ediv_of_nonneg _ (by decide)]
        omega)
      obtain ⟨q2, e2, lo2, va2⟩ := abc_at (z := (0 + (i : Int)).fmod 26) (draw_mod (by omega) (by decide)).1 (draw_mod (by omega) (by decide)).2
      have lz : abc.length ≤ sizeLine := by decide +kernel
      have ik : 26 * (q1 - 97) + (q2 - 97) = ws.length := by
        have a1 : (0 + (i : Int)).fdiv 26 = (i : Int) / 26 := by rw [Int.fdiv_eq_ediv_of_nonneg _ (by decide), Int.zero_add]
        have a2 : (0 + (i : Int)).fmod 26 = (i : Int) % 26 := by rw [Int.fmod_eq_emod_of_nonneg _ (by decide), Int.zero_add]
        rw [a1] at va1
        rw [a2] at va2
        omega
      -- tail
      refine ⟨_, rfl, _, rfl, _, _, rfl, rfl, ⟨by decide, by decide⟩, abc, _, q1, rfl, rfl, lz, e1, _, rfl, _, rfl, _, _, rfl, rfl, (show (26 : Int) ≠ 0 by decide), abc, _, q2, rfl, rfl, lz, e2, _, _, rfl, rfl, (show 2 ≤ sizeLine by decide), ?_⟩
      -- word
      refine ⟨⟨_, rfl⟩, _, rfl, b, l, 7, rfl, B2, by decide, by decide, fun r H3 r0 r1 B3 x3 => ?_⟩
      refine ⟨_, rfl, rfl, .inr ⟨_, rfl, r, _, rfl, rfl, .inl ⟨by omega, by omega⟩, ?_⟩⟩
      obtain ⟨n, en⟩ : ∃ n, n = r * (if decide (V.int st = V.int 2) = true then (1 : Int) else 0) := ⟨_, rfl⟩
      have n0 : 0 ≤ n ∧ n ≤ 6 := by
        rw [en]
        split <;> omega
      refine ⟨n, by rw [en], by omega, by omega, fun D nD => ?_⟩
      have Db := B3.nb nD
      have Dl := B3.nl nD
      have h3 : H3 p = some (.lst (ws.map V.str)) := x3.get h2 pb pl
      have Dp : p ≠ D := ne_of_none h3 nD
      have nD0 : H D = none := by
        cases q : H D with
        | none => rfl
        | some o =>
          have z := (x2.trans x3).get q Db Dl
          rw [nD] at z
          cases z
      refine lc_range (lo := 0) (n := n.toNat) (fun j H' => Bag H' b l ∧ Ext b l H H' ∧ H' p = some (.lst (ws.map V.str)) ∧ ∃ cs : List Str, H' D = some (.lst (cs.map V.str)) ∧ cs.length = j ∧ (∀ z ∈ cs, z.length = 1) ∧ ∀ z ∈ cs, Lo z)
        ⟨B3.put Db Dl, (x2.trans x3).over nD0, by rw [upd_ne Dp]; exact h3, [], upd_same, rfl, (by intro z h; cases h), by intro z h; cases h⟩ ?_ ?_
      · rintro j H4 hj ⟨B4, x4, h4, cs, hD, cl, c1', cL⟩
        refine ⟨rfl, ?_⟩
        refine ⟨_, rfl, _, rfl, b, l, 26, rfl, B4, by decide, by decide, fun r' H5 t0 t1 B5 x5 => ?_⟩
        obtain ⟨q3, e3, lo3, _⟩ := abc_at t0 t1
        refine ⟨abc, _, q3, rfl, rfl, lz, e3, _, x5.get hD Db Dl, by rw [List.length_map]; exact lt_size (m := 7) (by omega) (by decide), ?_⟩
        refine ⟨B5.put Db Dl, (x4.trans x5).over nD0, by rw [upd_ne Dp]; exact x5.get h4 pb pl, cs ++ [⟨#[q3]⟩], ?_, by rw [List.length_append, cl]; rfl, ?_, ?_⟩
        · rw [upd_same, List.map_append]
          rfl
        · intro z hz
          rcases List.mem_append.mp hz with q | q
          · exact c1' z q
          · cases List.mem_singleton.mp q
            rfl
        · intro z hz
          rcases List.mem_append.mp hz with q | q
          · exact cL z q
          · cases List.mem_singleton.mp q
            exact lo_one lo3
      · rintro H4 ⟨B4, x4, h4, cs, hD, cl, c1', cL⟩
        have jl := join0 cs c1'
        refine ⟨_, D, cs, rfl, rfl, .inl (SqL.of hD), ?_, ?_⟩
        · rw [sum_ones cs c1']
          have e : (("" : String) : Str).length = 0 := rfl
          rw [e]
          omega
        -- found.append([..][style])
        refine ⟨_, rfl, .inl ⟨rfl, _, SqL.of h4⟩, ?_⟩
        have tj : (Txt.join "" cs).length = cs.length := by
          rw [TL.join_eq]
          exact jl
        have tail2 : ((⟨#[q1]⟩ ++ ⟨#[q2]⟩ : Str)).length = 2 := rfl
        have six : ("mnopqr" : Str).length = 6 := by decide +kernel
        have sz : ∀ n : Nat, n ≤ 1000 → n ≤ sizeLine := fun n h => Nat.le_of_lt (small1000 h)
        have loT : Lo (⟨#[q1]⟩ ++ ⟨#[q2]⟩) := (lo_one lo1).app (lo_one lo2)
        have loM : Lo ("mnopqr" : Str) := by unfold Lo; decide +kernel
        have loJ : Lo (Txt.join "" cs) := by rw [TL.join_eq]; exact lo_join cs cL
        have z1 : Ok8 (("mnopqr" : Str) ++ (⟨#[q1]⟩ ++ ⟨#[q2]⟩)) := ⟨by rw [str_add, six, tail2]; decide, loM.app loT⟩
        have z2 : Ok8 ((⟨#[q1]⟩ ++ ⟨#[q2]⟩ : Str) ++ Txt.join "" cs) := ⟨by rw [str_add, tail2, tj]; omega, loT.app loJ⟩
        have wsz : ws.length < 97 := by omega
        refine ⟨_, rfl, _, _, rfl, rfl, _, rfl, ite2 (fun _ => ?_) (fun _ => ?_)⟩
        · refine ⟨_, rfl, _, rfl, _, _, rfl, rfl, (show (26 : Int) ≠ 0 by decide), abc, _, q2, rfl, rfl, lz, e2, ?_⟩
          have c27 : c < 27 := of_decide_eq_true (by assumption)
          have s27 : q2 - 97 = ws.length := by
            have a2 : (0 + (i : Int)).fmod 26 = (i : Int) % 26 := by rw [Int.fmod_eq_emod_of_nonneg _ (by decide), Int.zero_add]
            rw [a2] at va2
            omega
          obtain ⟨v, ev, z, zv, z8, zk⟩ := pick3i (a := .str ⟨#[q2]⟩) (b := .str (("mnopqr" : Str) ++ (⟨#[q1]⟩ ++ ⟨#[q2]⟩))) (c := .str ((⟨#[q1]⟩ ++ ⟨#[q2]⟩ : Str) ++ Txt.join "" cs)) s0 s1 (fun v => ∃ z, v = V.str z ∧ Ok8 z ∧ kap st c z = ws.length)
            (fun e => ⟨_, rfl, ⟨(by decide : 1 ≤ 8), lo_one lo2⟩, (kap1 (a := 0) st c (by omega) e c27).trans s27⟩) (fun e => ⟨_, rfl, z1, (kap3 e).trans ik⟩) (fun e => ⟨_, rfl, z2, (kap2 (by omega) (by omega)).trans ik⟩)
          subst zv
          refine ⟨_, rfl, _, _, rfl, rfl, (by rw [six, tail2]; exact sz _ (by decide)), _, rfl, _, rfl, _, _, rfl, rfl, (by rw [tail2, tj]; exact sz _ (by omega)), (show 3 ≤ sizeLine by decide), fun q nq => ?_⟩
          have pq : p ≠ q := ne_of_none h4 nq
          refine ⟨_, rfl, q, _, _, _, rfl, rfl, SqL.of upd_same, ev, ?_⟩
          refine ⟨p, _, _, rfl, rfl, by rw [upd_ne pq]; exact h4, by rw [List.length_map]; exact lt_size wsz (by decide), ?_⟩
          refine ⟨_, _, _, _, rfl, (B4.put (B4.nb nq) (B4.nl nq)).put pb pl, ((x4.trans (Ext.of_same (same_new nq))).over np0), ws ++ [z], ?_, by rw [List.length_append, wl]; rfl, w8.snoc z8, kap_snoc kk zk⟩
          rw [upd_same, List.map_append]
          rfl
        · refine ⟨_, rfl, ?_⟩
          have c27 : ¬ c < 27 := fun q => by
            have t := decide_eq_true q
            contradiction
          obtain ⟨v, ev, z, zv, z8, zk⟩ := pick3i (a := .str (⟨#[q1]⟩ ++ ⟨#[q2]⟩)) (b := .str (("mnopqr" : Str) ++ (⟨#[q1]⟩ ++ ⟨#[q2]⟩))) (c := .str ((⟨#[q1]⟩ ++ ⟨#[q2]⟩ : Str) ++ Txt.join "" cs)) s0 s1 (fun v => ∃ z, v = V.str z ∧ Ok8 z ∧ kap st c z = ws.length)
            (fun e => ⟨_, rfl, ⟨(by rw [tail2]; decide), loT⟩, (kap2' (fun q => c27 q.2) (by omega)).trans ik⟩) (fun e => ⟨_, rfl, z1, (kap3 e).trans ik⟩) (fun e => ⟨_, rfl, z2, (kap2 (fun q => c27 q.2) (by omega)).trans ik⟩)
          subst zv
          refine ⟨_, rfl, _, _, rfl, rfl, (by rw [six, tail2]; exact sz _ (by decide)), _, rfl, _, rfl, _, _, rfl, rfl, (by rw [tail2, tj]; exact sz _ (by omega)), (show 3 ≤ sizeLine by decide), fun q nq => ?_⟩
          have pq : p ≠ q := ne_of_none h4 nq
          refine ⟨_, rfl, q, _, _, _, rfl, rfl, SqL.of upd_same, ev, ?_⟩
          refine ⟨p, _, _, rfl, rfl, by rw [upd_ne pq]; exact h4, by rw [List.length_map]; exact lt_size wsz (by decide), ?_⟩
          refine ⟨_, _, _, _, rfl, (B4.put (B4.nb nq) (B4.nl nq)).put pb pl, ((x4.trans (Ext.of_same (same_new nq))).over np0), ws ++ [z], ?_, by rw [List.length_append, wl]; rfl, w8.snoc z8, kap_snoc kk zk⟩
          rw [upd_same, List.map_append]
          rfl
    · rintro σ H2 ⟨v5, v6, v7, v8, rfl, B2, x2, ws, h2, wl, w8, kk⟩
      exact ⟨_, rfl, k p ws H2 np0 pb pl (by omega) w8 (kap_nd kk) h2 B2 x2⟩
end
end My
namespace My
open PySem PySem.Spec PyProof.Rows L2
section
variable {P : Program} {w : World} {K : PySem.W.Frag} {mg : Str → Option Value} {base : Heap} {A : Ad}
theorem ok_keeper (T : Txt K mg A) : FnOk P w K mg base CX0 2 A.f_keeper A.d_keeper P_keeper spKeeper := by
  refine T.F_keeper.ok sc_keeper (fun vs H Q E h => ?_) (fun cdv A' outer s H vs Q E hr h => ?_)
  · obtain ⟨b, l, so, n, ws, rfl, _⟩ := h
    rfl
  · obtain ⟨b, l, so, n, ws, rfl, B, hso, sob, sol, w8, w12, w96, n8, k⟩ := h
    refine ⟨_, (pss_cons (ps_set (i := 3) sc_keeper.nd rfl (Or.inl rfl) (pe_op op_add pe_int (pe_call (ok_draw T) (hr.mono (by decide)) rfl T.g_draw T.F_draw.kp T.b_draw .nil pass0 (pa_cons (pv 0) (pa_cons (pe_ix (ix_listK (K := K) rfl) (pe_lst (pa_cons pe_int (pa_cons pe_int pa_nil))) (pe_call (ok_draw T) (hr.mono (by decide)) rfl T.g_draw T.F_draw.kp T.b_draw .nil pass0 (pa_cons (pv 0) (pa_cons pe_int pa_nil))) (fun _ _ => rfl)) pa_nil)))))
    (pss_cons (ps_set (i := 4) sc_keeper.nd rfl (Or.inl rfl) (pe_cmpR op_eq (pe_call (ok_draw T) (hr.mono (by decide)) rfl T.g_draw T.F_draw.kp T.b_draw .nil pass0 (pa_cons (pv 0) (pa_cons pe_int pa_nil))) pe_int (nomark _)))
    (pss_cons (ps_set (i := 5) sc_keeper.nd rfl (Or.inr rfl) (pe_callTy (list_ofK (K := K) rfl) (by rfl) T.n_list (by decide +kernel) (pa_cons (pv 2) pa_nil)))
    (pss_cons (ps_setLc (i := 6) (own := [("k", 7)]) (tt := tYes) (g := (gName 7)) rfl sc_keeper.nd rfl rfl (sw_true rfl rfl rfl (by decide +kernel)) (pi_range1 (by rfl) T.n_range (pa_cons (pe_ifExp (pt_val (pv 4)) (pe_call (ok_draw T) (hr.mono (by decide)) rfl T.g_draw T.F_draw.kp T.b_draw .nil pass0 (pa_cons (pv 0) (pa_cons (pe_op op_add (pv 3) pe_int) pa_nil))) (pv 3)) pa_nil)) (blkOk_by (own := [("k", 7)]) (N := N_keeper) (sc := defScope s_keeper) (by decide +kernel)) (fun _ _ _ _ _ => (pg_name (i := 7) sc_keeper.nd rfl (Or.inl rfl))) (fun _ _ _ _ _ => pts_nil) (fun _ _ _ _ _ => by exact (pe_K (K := K) rfl (pe_bm PySem.F.plainAttrs_list PySem.F.slot_list_pop PySem.F.type_list_pop mt_popAt (by exact (pv 5)) (by exact (pa_cons (pe_call (ok_draw T) (hr.mono (by decide)) rfl T.g_draw T.F_draw.kp T.b_draw .nil pass0 (pa_cons (pv 0) (pa_cons (pe_callB (len_seqK (K := K) rfl) (by rfl) T.n_len PySem.boot_len (pa_cons (pv 5) pa_nil)) pa_nil))) pa_nil))))))
    (pss_one (ps_ret (pe_tup (pa_cons (pv 1) (pa_cons (pv 3) (pa_cons (pv 4) (pa_cons (pv 6) pa_nil))))))))))), ?_⟩
    -- room
    refine ⟨_, rfl, (show 2 ≤ sizeLine by decide), fun q nq => ?_⟩
    have qb := B.nb nq
    have ql := B.nl nq
    refine ⟨_, rfl, b, l, 2, rfl, B.put qb ql, by decide, by decide, fun r H1 r0 r1 B1 x1 => ?_⟩
    have y1 : Ext b l H H1 := (Ext.of_same (same_new nq)).trans x1
    obtain ⟨m, em, m0, m1⟩ : ∃ m : Int, atI [V.int 3, V.int 12] r = some (.int m) ∧ 0 < m ∧ m ≤ 12 := by
      obtain e | e : r = 0 ∨ r = 1 := by omega
      · subst e
        exact ⟨3, rfl, by decide, by decide⟩
      · subst e
        exact ⟨12, rfl, by decide, by decide⟩
    refine ⟨q, _, _, _, rfl, rfl, SqL.of (x1.get upd_same qb ql), em, b, l, m, rfl, B1, m0, by omega, fun r2 H2 r20 r21 B2 x2 => ?_⟩
    refine ⟨_, _, rfl, rfl, ?_⟩
    -- whole
    refine ⟨_, rfl, b, l, 2, rfl, B2, by decide, by decide, fun r3 H3 r30 r31 B3 x3 => ⟨rfl, ?_⟩⟩
    have y3 : Ext b l H H3 := (y1.trans x2).trans x3
    obtain ⟨wh, ewh⟩ : ∃ wh, wh = decide (V.int r3 = V.int 0) := ⟨_, rfl⟩
    rw [← ewh]
    -- left
    refine ⟨_, rfl, so, _, rfl, .inl (SqL.of (y3.get hso sob sol)), fun L nL => ?_⟩
    have Lb := B3.nb nL
    have Ll := B3.nl nL
    have nL0 := y3.free nL Lb Ll
    -- row
    refine ⟨_, rfl, _, rfl, ?_⟩
    refine join2 (fun v H5 => ∃ i : Int, v = V.int i ∧ 0 ≤ i ∧ i ≤ 12 ∧ Bag H5 b l ∧ Ext b l H H5 ∧ H5 L = some (.lst (ws.map V.str))) ?_ (fun hq => ?_)
    · rintro v H5 ⟨i, rfl, i0, i12, B5, y5, h5⟩
      refine ⟨i, rfl, by omega, by omega, fun D nD => ?_⟩
      have Db := B5.nb nD
      have Dl := B5.nl nD
      have nD0 := y5.free nD Db Dl
      have LD : L ≠ D := ne_of_none h5 nD
      refine lc_range (lo := 0) (n := i.toNat) (fun j H' => Bag H' b l ∧ Ext b l H H' ∧ ∃ rest rw : List Str, H' L = some (.lst (rest.map V.str)) ∧ rest.length + j = ws.length ∧ W8 rest ∧
          H' D = some (.lst (rw.map V.str)) ∧ rw.length = j ∧ W8 rw)
        ⟨B5.put Db Dl, y5.over nD0, ws, [], by rw [upd_ne LD]; exact h5, rfl, w8, upd_same, rfl, w8_nil⟩ ?_ ?_
      · rintro j H6 hj ⟨B6, y6, rest, rw', hL, el, wr, hD, en, wq⟩
        refine ⟨rfl, ?_⟩
        refine ⟨_, rfl, .inl ⟨rfl, _, SqL.of hL⟩, _, rfl, _, rfl, L, _, rfl, .inl (SqL.of hL), b, l, _, rfl, B6, ?_, ?_, fun t H7 t0 t1 B7 x7 => ?_⟩
        · rw [List.length_map]
          omega
        · rw [List.length_map]
          omega
        rw [List.length_map] at t1
        obtain ⟨tn, rfl⟩ := Int.eq_ofNat_of_zero_le t0
        have tl : tn < rest.length := by omega
        have hL7 := x7.get hL Lb Ll
        have it : (rest.map V.str)[tn]? = some (.str rest[tn]) := map_at (List.getElem?_eq_getElem tl)
        refine ⟨L, _, _, tn, _, rfl, rfl, hL7, by omega, by omega, seq_at (by rw [List.length_map]; exact tl), it, ?_⟩
        refine ⟨_, by rw [upd_ne LD.symm]; exact x7.get hD Db Dl, by rw [List.length_map, en]; exact lt_size (m := 13) (by omega) (by decide), ?_⟩
        refine ⟨(B7.put Lb Ll).put Db Dl, ((y6.trans x7).over nL0).over nD0, rest.eraseIdx tn, rw' ++ [rest[tn]], ?_, ?_, w8_erase wr, ?_, by rw [List.length_append, en]; rfl, wq.snoc (wr _ (List.getElem_mem tl))⟩
        · rw [upd_ne LD, upd_same, erase_map]
        · rw [List.length_eraseIdx]
          rw [if_pos tl]
          omega
        · rw [upd_same, List.map_append]
          rfl
      · rintro H6 ⟨B6, y6, rest, rw', hL, el, wr, hD, en, wq⟩
        refine ⟨_, rfl, _, rfl, _, rfl, _, rfl, (show 4 ≤ sizeLine by decide), fun t nt => ?_⟩
        have tb := B6.nb nt
        have tl := B6.nl nt
        refine k t ⟨n, 1 + r2, wh, rw'⟩ _ rfl ⟨n8, by show 1 ≤ 1 + r2; omega, by show 1 + r2 ≤ 12; omega, by show rw'.length ≤ 12; omega, wq⟩ ⟨D, ?_, ?_⟩ (B6.put tb tl) (y6.trans (Ext.of_same (same_new nt)))
        · rw [nw_eq (y6.free nt tb tl), upd_same]
        · rw [nw_eq nD0, upd_ne (ne_of_none hD nt)]
          exact hD
    · cases wh with
      | true =>
        refine ⟨_, rfl, _, rfl, _, _, rfl, rfl, b, l, _, rfl, B3.put Lb Ll, by omega, by omega, fun r4 H4 r40 r41 B4 x4 => ?_⟩
        exact hq _ _ ⟨r4, rfl, r40, by omega, B4, (y3.over nL0).trans x4, x4.get upd_same Lb Ll⟩
      | false =>
        exact ⟨_, rfl, hq _ _ ⟨_, rfl, by omega, by omega, B3.put Lb Ll, y3.over nL0, upd_same⟩⟩
end
end My
namespace My
open PySem PySem.Spec PyProof.Rows L2
theorem strs_inj {cs ds : List Str} {o : Option HO} (h1 : o = some (.lst (cs.map V.str))) (h2 : o = some (.lst (ds.map V.str))) : cs = ds := by
  have e : HO.lst (cs.map V.str) = .lst (ds.map V.str) := Option.some.inj (h1.symm.trans h2)
  have e2 : cs.map V.str = ds.map V.str := HO.lst.inj e
  exact (List.map_inj_right fun a b z => V.str.inj z).mp e2
section
variable {P : Program} {w : World} {K : PySem.W.Frag} {mg : Str → Option Value} {base : Heap} {A : Ad}
theorem ok_board (T : Txt K mg A) : FnOk P w K mg base CX0 3 A.f_board A.d_board P_board spBoardN := by
  refine T.F_board.ok sc_board (fun vs H Q E h => ?_) (fun cdv A' outer s H vs Q E hr h => ?_)
  · obtain ⟨b, l, rfl, _⟩ := h
    rfl
  · obtain ⟨b, l, rfl, B, k⟩ := h
    refine ⟨_, (pss_cons (ps_set (i := 1) sc_board.nd rfl (Or.inr rfl) (pe_call (ok_pool T) (hr.mono (by decide)) rfl T.g_pool T.F_pool.kp T.b_pool .nil pass0 (pa_cons (pv 0) (pa_cons (pe_ix (ix_listK (K := K) rfl) (pe_lst (pa_cons pe_int (pa_cons pe_int (pa_cons pe_int pa_nil)))) (pe_call (ok_draw T) (hr.mono (by decide)) rfl T.g_draw T.F_draw.kp T.b_draw .nil pass0 (pa_cons (pv 0) (pa_cons pe_int pa_nil))) (fun _ _ => rfl)) pa_nil))))
    (pss_cons (ps_set (i := 2) sc_board.nd rfl (Or.inr rfl) (pe_ix (ix_listK (K := K) rfl) (pe_lst (pa_cons (pe_slice (sl_listK (K := K) rfl) (pv 1) po_none (po_some pe_int)) (pa_cons (pe_call (ok_pool T) (hr.mono (by decide)) rfl T.g_pool T.F_pool.kp T.b_pool .nil pass0 (pa_cons (pv 0) (pa_cons pe_int pa_nil))) pa_nil))) (pe_call (ok_draw T) (hr.mono (by decide)) rfl T.g_draw T.F_draw.kp T.b_draw .nil pass0 (pa_cons (pv 0) (pa_cons pe_int pa_nil))) (fun _ _ => rfl)))
    (pss_cons (ps_set (i := 3) sc_board.nd rfl (Or.inl rfl) (pe_lst pa_nil))
    (pss_cons (ps_set (i := 4) sc_board.nd rfl (Or.inl rfl) pe_int)
    (pss_cons (ps_for PassesOwn.never rfl (pi_range1 (by rfl) T.n_range (pa_cons (pe_call (ok_draw T) (hr.mono (by decide)) rfl T.g_draw T.F_draw.kp T.b_draw .nil pass0 (pa_cons (pv 0) (pa_cons pe_int pa_nil))) pa_nil)) (pg_name (i := 5) sc_board.nd rfl (Or.inl rfl))
      (pss_cons (ps_set (i := 6) sc_board.nd rfl (Or.inl rfl) (pe_call (ok_draw T) (hr.mono (by decide)) rfl T.g_draw T.F_draw.kp T.b_draw .nil pass0 (pa_cons (pv 0) (pa_cons (pe_op op_add (pv 4) pe_int) pa_nil))))
      (pss_cons (ps_set (i := 4) sc_board.nd rfl (Or.inl rfl) (pe_op op_sub (pv 4) (pv 6)))
      (pss_cons (ps_setLc (i := 7) (own := [("k", 8)]) (tt := tYes) (g := (gName 8)) rfl sc_board.nd rfl rfl (sw_true rfl rfl rfl (by decide +kernel)) (pi_range1 (by rfl) T.n_range (pa_cons (pv 6) pa_nil)) (blkOk_by (own := [("k", 8)]) (N := N_board) (sc := defScope s_board) (by decide +kernel)) (fun _ _ _ _ _ => (pg_name (i := 8) sc_board.nd rfl (Or.inl rfl))) (fun _ _ _ _ _ => pts_nil) (fun _ _ _ _ _ => by exact (pe_call (ok_keeper T) (hr.mono (by decide)) rfl T.g_keeper T.F_keeper.kp T.b_keeper .nil pass0 (pa_cons (pv 0) (pa_cons (pe_K (K := K) rfl (pe_bm PySem.F.plainAttrs_list PySem.F.slot_list_pop PySem.F.type_list_pop mt_popAt (by exact (pv 2)) (by exact (pa_cons (pe_call (ok_draw T) (hr.mono (by decide)) rfl T.g_draw T.F_draw.kp T.b_draw .nil pass0 (pa_cons (pv 0) (pa_cons (pe_callB (len_seqK (K := K) rfl) (by rfl) T.n_len PySem.boot_len (pa_cons (pv 2) pa_nil)) pa_nil))) pa_nil)))) (pa_cons (pv 1) pa_nil))))))
      (pss_one (ps_expr (pe_K (K := K) rfl (pe_bm PySem.F.plainAttrs_list PySem.F.slot_list_append PySem.F.type_list_append mt_append (by exact (pv 3)) (by exact (pa_cons (pe_tup (pa_cons (pe_call (ok_draw T) (hr.mono (by decide)) rfl T.g_draw T.F_draw.kp T.b_draw .nil pass0 (pa_cons (pv 0) (pa_cons (pe_op op_add (pv 6) pe_int) pa_nil))) (pa_cons (pv 7) pa_nil))) pa_nil))))))))))
    (pss_one (ps_ret (pv 3)))))))), ?_⟩
    -- some
    refine ⟨_, rfl, (show 3 ≤ sizeLine by decide), fun q nq => ?_⟩
    have qb := B.nb nq
    have ql := B.nl nq
    refine ⟨_, rfl, b, l, 3, rfl, B.put qb ql, by decide, by decide, fun r H1 r0 r1 B1 x1 => ?_⟩
    have y1 : Ext b l H H1 := (Ext.of_same (same_new nq)).trans x1
    obtain ⟨v, ev, m, rfl, m0, m1⟩ := pick3 (a := .int 12) (b := .int 16) (c := .int 96) r0 r1 (fun v => ∃ m, v = V.int m ∧ 12 ≤ m ∧ m ≤ 96) ⟨_, rfl, by decide, by decide⟩ ⟨_, rfl, by decide, by decide⟩ ⟨_, rfl, by decide, by decide⟩
    refine ⟨q, _, _, _, rfl, rfl, SqL.of (x1.get upd_same qb ql), ev, b, l, m, rfl, B1, by omega, m1, fun so ws H2 nso sob sol wl w8 nd hso B2 x2 => ?_⟩
    have y2 := y1.trans x2
    -- called
    refine ⟨_, rfl, _, rfl, so, _, rfl, SqL.of hso, fun c1 nc1 => ?_⟩
    obtain ⟨cs1, ec1, lc1, sub1, nd1⟩ := cut_nd (f := V.str) (xs := ws) (k := 8) nd
    have ec1' : cutV (ws.map V.str) none (some 8) = cs1.map V.str := ec1
    rw [ec1']
    have c1b := B2.nb nc1
    have c1l := B2.nl nc1
    have soc1 : so ≠ c1 := ne_of_none hso nc1
    have nc10 := y2.free nc1 c1b c1l
    refine ⟨_, rfl, b, l, 8, rfl, B2.put c1b c1l, by decide, by decide, fun c2 cs2 H3 nc2 c2b c2l lc2 w82 nd2 hc2 B3 x3 => ?_⟩
    have y3 := (y2.over nc10).trans x3
    have hc1 : H3 c1 = some (.lst (cs1.map V.str)) := x3.get upd_same c1b c1l
    have hso3 : H3 so = some (.lst (ws.map V.str)) := x3.get (by rw [upd_ne soc1]; exact hso) sob sol
    have c1c2 : c1 ≠ c2 := fun z => by
      rw [← z, upd_same] at nc2
      cases nc2
    have soc2 : so ≠ c2 := fun z => by
      rw [← z, upd_ne soc1, hso] at nc2
      cases nc2
    refine ⟨(show 2 ≤ sizeLine by decide), fun q2 nq2 => ?_⟩
    have q2b := B3.nb nq2
    have q2l := B3.nl nq2
    refine ⟨_, rfl, b, l, 2, rfl, B3.put q2b q2l, by decide, by decide, fun r2 H4 r20 r21 B4 x4 => ?_⟩
    have y4 := (y3.trans (Ext.of_same (same_new nq2))).trans x4
    have z4 : Ext b l H3 H4 := (Ext.of_same (same_new nq2)).trans x4
    obtain ⟨cl, cs, ecl, hcl, clb, cll, ncl, socl, lcs, w8c, ndc⟩ : ∃ (cl : Addr) (cs : List Str), atI [V.ref c1, V.ref c2] r2 = some (.ref cl) ∧ H4 cl = some (.lst (cs.map V.str)) ∧ cl ≠ b ∧ cl ≠ l ∧ H cl = none ∧ so ≠ cl ∧ cs.length = 8 ∧ W8 cs ∧ cs.Nodup := by
      obtain e | e : r2 = 0 ∨ r2 = 1 := by omega
      · subst e
        exact ⟨c1, cs1, rfl, z4.get hc1 c1b c1l, c1b, c1l, nc10, soc1, by omega, fun z hz => w8 z (sub1 z hz), nd1⟩
      · subst e
        refine ⟨c2, cs2, rfl, z4.get hc2 c2b c2l, c2b, c2l, ?_, soc2, by omega, w82, nd2⟩
        have nn : H2 c2 = none := by
          rw [upd_ne c1c2.symm] at nc2
          exact nc2
        exact y2.free nn c2b c2l
    have hso4 := z4.get hso3 sob sol
    refine ⟨q2, _, _, _, rfl, rfl, SqL.of (x4.get upd_same q2b q2l), ecl, ?_⟩
    -- found; left
    refine ⟨(show 0 ≤ sizeLine by decide), fun f nf => ?_⟩
    have fb := B4.nb nf
    have fl := B4.nl nf
    have nf0 := y4.free nf fb fl
    have clf : cl ≠ f := ne_of_none hcl nf
    have sof : so ≠ f := ne_of_none hso4 nf
    -- for t in range(..)
    refine ⟨_, rfl, b, l, 4, rfl, B4.put fb fl, by decide, by decide, fun r3 H5 r30 r31 B5 x5 => ?_⟩
    have y5 := (y4.over nf0).trans x5
    refine ⟨r3, rfl, by omega, by omega, for_range (lo := 0) (n := r3.toNat) (fun i σ H' => ∃ v5 v6 v7 v8 lf, σ = [some (.ref b), some (.ref so), some (.ref cl), some (.ref f), some (.int lf), v5, v6, v7, v8] ∧
        Bag H' b l ∧ Ext b l H H' ∧ H' so = some (.lst (ws.map V.str)) ∧ (∃ cs : List Str, H' cl = some (.lst (cs.map V.str)) ∧ (cs.length : Int) = lf ∧ lf ≤ 8 ∧ W8 cs) ∧
        ∃ (as : List Addr) (bd : List Tm), H' f = some (.lst (as.map V.ref)) ∧ bd.length = i ∧ (∀ t ∈ bd, TmOk t) ∧ Paired (TmAt (Of1 f (Of1 cl (Nw H H')))) as bd ∧ ∀ cs : List Str, H' cl = some (.lst (cs.map V.str)) → (((bd.flatMap (·.ks)).map (·.name)) ++ cs).Nodup)
      ⟨none, none, none, none, 8, rfl, B5, y5, x5.get (by rw [upd_ne sof]; exact hso4) sob sol, ⟨cs, x5.get (by rw [upd_ne clf]; exact hcl) clb cll, by omega, by omega, w8c⟩, [], [], x5.get upd_same fb fl, rfl, (by intro t h; cases h), .nil, fun cs' e => by
        have z := x5.get (by rw [upd_ne clf]; exact hcl) clb cll
        rw [strs_inj e z]
        exact ndc⟩ ?_ ?_⟩
    · rintro i σ H6 hi ⟨v5, v6, v7, v8, lf, rfl, B6, y6, hso6, ⟨cs, hcl6, el, lf8, w8c⟩, as, bd, hf6, eb, okb, pb, ndb⟩
      -- count; left
      refine ⟨_, rfl, _, rfl, _, _, rfl, rfl, b, l, _, rfl, B6, by omega, by omega, fun n H7 n0 n1 B7 x7 => ?_⟩
      refine ⟨_, rfl, _, rfl, _, _, rfl, rfl, ?_⟩
      have y7 := y6.trans x7
      have hso7 := x7.get hso6 sob sol
      have hcl7 := x7.get hcl6 clb cll
      have hf7 := x7.get hf6 fb fl
      have pb7 : Paired (TmAt (Of1 f (Of1 cl (Nw H H7)))) as bd := L2.Paired.mapP pb fun a t q => q.same (of1_same (of1_same (nw_ext B x7)))
      -- keepers
      refine ⟨_, rfl, n, rfl, by omega, by omega, fun D nD => ?_⟩
      have Db := B7.nb nD
      have Dl := B7.nl nD
      have nD0 := y7.free nD Db Dl
      have soD : so ≠ D := ne_of_none hso7 nD
      have clD : cl ≠ D := ne_of_none hcl7 nD
      have fD : f ≠ D := ne_of_none hf7 nD
      have outB : ∀ {c : Addr}, H c = none → c ≠ b ∧ c ≠ l := fun h => ⟨B.nb h, B.nl h⟩
      refine lc_range (lo := 0) (n := n.toNat) (fun j H' => Bag H' b l ∧ Ext b l H H' ∧ H' so = some (.lst (ws.map V.str)) ∧ H' f = some (.lst (as.map V.ref)) ∧
          (∃ cs : List Str, H' cl = some (.lst (cs.map V.str)) ∧ cs.length + j = lf ∧ W8 cs) ∧ Paired (TmAt (Of1 D (Of1 f (Of1 cl (Nw H H'))))) as bd ∧
          ∃ (ds : List Addr) (ks : List Kp), H' D = some (.lst (ds.map V.ref)) ∧ ks.length = j ∧ (∀ k ∈ ks, KpOk k) ∧ Paired (KpAt (Of1 D (Of1 f (Of1 cl (Nw H H'))))) ds ks ∧ ∀ cs : List Str, H' cl = some (.lst (cs.map V.str)) → (((bd.flatMap (·.ks)).map (·.name) ++ ks.map (·.name)) ++ cs).Nodup)
        ⟨B7.put Db Dl, y7.over nD0, by rw [upd_ne soD]; exact hso7, by rw [upd_ne fD]; exact hf7, ⟨cs, by rw [upd_ne clD]; exact hcl7, by omega, w8c⟩, ?_, [], [], upd_same, rfl, (by intro k h; cases h), .nil, fun cs' e => by
          rw [upd_ne clD, hcl7] at e
          rw [strs_inj e rfl, List.map_nil, List.append_nil]
          exact ndb _ hcl6⟩ ?_ ?_
      · refine L2.Paired.mapP pb7 fun a t q => q.same fun c u h => ?_
        obtain ⟨h1, h2, h3, h4⟩ := of2_get h
        have h5 := ne_of_none h4 nD
        exact of3_put h5 h1 h2 h3 (by rw [upd_ne h5]; exact h4)
      · rintro j H8 hj ⟨B8, y8, hso8, hf8, ⟨cs, hcl8, el8, w8c⟩, pb8, ds, ks, hD8, ek, okk, pk, ndk⟩
        refine ⟨rfl, ?_⟩
        refine ⟨_, rfl, _, rfl, .inl ⟨rfl, _, SqL.of hcl8⟩, _, rfl, _, rfl, cl, _, rfl, .inl (SqL.of hcl8), b, l, _, rfl, B8, ?_, ?_, fun t H9 t0 t1 B9 x9 => ?_⟩
        · rw [List.length_map]
          omega
        · rw [List.length_map]
          omega
        rw [List.length_map] at t1
        obtain ⟨tn, rfl⟩ := Int.eq_ofNat_of_zero_le t0
        have tl : tn < cs.length := by omega
        have hcl9 := x9.get hcl8 clb cll
        have it : (cs.map V.str)[tn]? = some (.str cs[tn]) := map_at (List.getElem?_eq_getElem tl)
        refine ⟨cl, _, _, tn, _, rfl, rfl, hcl9, by omega, by omega, seq_at (by rw [List.length_map]; exact tl), it, ?_⟩
        have hcl10 : (upd H9 cl (.lst ((cs.map V.str).eraseIdx tn))) cl = some (.lst ((cs.eraseIdx tn).map V.str)) := by rw [upd_same, erase_map]
        have hso10 : (upd H9 cl (.lst ((cs.map V.str).eraseIdx tn))) so = some (.lst (ws.map V.str)) := by rw [upd_ne socl]; exact x9.get hso8 sob sol
        refine ⟨_, rfl, b, l, so, _, ws, rfl, B9.put clb cll, hso10, sob, sol, w8, by omega, by omega, w8c _ (List.getElem_mem tl), fun a kk H10 en kok kat B10 x10 => ?_⟩
        have hD10 : H10 D = some (.lst (ds.map V.ref)) := x10.get (by rw [upd_ne clD.symm]; exact x9.get hD8 Db Dl) Db Dl
        have hf9 : (upd H9 cl (.lst ((cs.map V.str).eraseIdx tn))) f = some (.lst (as.map V.ref)) := by rw [upd_ne clf.symm]; exact x9.get hf8 fb fl
        have dl : ds.length = ks.length := pk.length
        have keepD : Same (Of1 D (Of1 f (Of1 cl (Nw H H8)))) (Of1 D (Of1 f (Of1 cl (Nw H (upd H10 D (.lst (ds.map V.ref ++ [.ref a]))))))) := fun c u h => by
          obtain ⟨h0, h1, h2, h3, h4⟩ := of3_get h
          obtain ⟨c1', c2'⟩ := outB h3
          refine of3_put h0 h1 h2 h3 ?_
          rw [upd_ne h0]
          exact x10.get (by rw [upd_ne h2]; exact x9.get h4 c1' c2') c1' c2'
        refine ⟨_, hD10, by rw [List.length_map, dl, ek]; exact lt_size (m := 9) (by omega) (by decide), ?_⟩
        refine ⟨B10.put Db Dl, (((y8.trans x9).over ncl).trans x10).over nD0, by rw [upd_ne soD]; exact x10.get hso10 sob sol, by rw [upd_ne fD]; exact x10.get hf9 fb fl,
          ⟨cs.eraseIdx tn, by rw [upd_ne clD]; exact x10.get hcl10 clb cll, ?_, w8_erase w8c⟩, L2.Paired.mapP pb8 fun a t q => q.same keepD, ds ++ [a], ks ++ [kk], ?_, by rw [List.length_append, ek]; rfl, ?_, ?_, fun cs' e => by
            rw [upd_ne clD] at e
            rw [strs_inj e (x10.get hcl10 clb cll), List.map_append, List.map_singleton, en, ← List.append_assoc]
            exact nd_pick (ndk _ hcl8) tl⟩
        · rw [List.length_eraseIdx, if_pos tl]
          omega
        · rw [upd_same, List.map_append]
          rfl
        · intro k hk
          rcases List.mem_append.mp hk with z | z
          · exact okk k z
          · cases List.mem_singleton.mp z
            exact kok
        · refine paired_snoc (L2.Paired.mapP pk fun a t q => q.same keepD) (kat.same fun c u h => ?_)
          obtain ⟨h1, h2⟩ := nw_some h
          have hD9 : (upd H9 cl (.lst ((cs.map V.str).eraseIdx tn))) D = some (.lst (ds.map V.ref)) := by rw [upd_ne clD.symm]; exact x9.get hD8 Db Dl
          have cD : c ≠ D := fun z => by rw [z, hD9] at h1; cases h1
          have cf : c ≠ f := fun z => by rw [z, hf9] at h1; cases h1
          have cc : c ≠ cl := fun z => by rw [z, hcl10] at h1; cases h1
          have Bx := B9.put (o := .lst ((cs.map V.str).eraseIdx tn)) clb cll
          exact of3_put cD cf cc (((y8.trans x9).over ncl).free h1 (Bx.nb h1) (Bx.nl h1)) (by rw [upd_ne cD]; exact h2)
      · rintro H8 ⟨B8, y8, hso8, hf8, ⟨cs, hcl8, el8, w8c⟩, pb8, ds, ks, hD8, ek, okk, pk, ndk⟩
        -- found.append((.., keepers))
        refine ⟨_, rfl, .inl ⟨rfl, _, SqL.of hf8⟩, _, rfl, _, rfl, _, _, rfl, rfl, b, l, _, rfl, B8, by omega, by omega, fun r4 H9 r40 r41 B9 x9 => ?_⟩
        refine ⟨_, rfl, (show 2 ≤ sizeLine by decide), fun t nt => ?_⟩
        have hf9 := x9.get hf8 fb fl
        have hD9 := x9.get hD8 Db Dl
        have hcl9 := x9.get hcl8 clb cll
        have tb := B9.nb nt
        have tl := B9.nl nt
        have y9 := y8.trans x9
        have nt0 := y9.free nt tb tl
        have ft : f ≠ t := ne_of_none hf9 nt
        have clt : cl ≠ t := ne_of_none hcl9 nt
        have Dt : D ≠ t := ne_of_none hD9 nt
        have al : as.length = bd.length := pb8.length
        refine ⟨f, _, _, rfl, rfl, by rw [upd_ne ft]; exact hf9, by rw [List.length_map, al, eb]; exact lt_size (m := 5) (by omega) (by decide), ?_⟩
        have keep9 : Same (Of1 D (Of1 f (Of1 cl (Nw H H8)))) (Of1 f (Of1 cl (Nw H (upd (upd H9 t (.tup [.int r4, .ref D])) f (.lst (as.map V.ref ++ [.ref t])))))) := fun c u h => by
          obtain ⟨h0, h1, h2, h3, h4⟩ := of3_get h
          obtain ⟨c1', c2'⟩ := outB h3
          have h5 := x9.get h4 c1' c2'
          refine of2_put h1 h2 h3 ?_
          rw [upd_ne h1, upd_ne (ne_of_none h5 nt)]
          exact h5
        refine ⟨_, _, _, _, _, rfl, (B9.put tb tl).put fb fl, (y9.over nt0).over nf0, ?_, ⟨cs, ?_, ?_, ?_, w8c⟩, as ++ [t], bd ++ [⟨r4, ks⟩], ?_, by rw [List.length_append, eb]; rfl, ?_, ?_, fun cs' e => by
            rw [upd_ne clf, upd_ne clt] at e
            rw [strs_inj e hcl9, List.flatMap_append, List.flatMap_cons, List.flatMap_nil, List.append_nil, List.map_append]
            exact ndk _ hcl8⟩
        · rw [upd_ne sof, upd_ne (ne_of_none (x9.get hso8 sob sol) nt)]
          exact x9.get hso8 sob sol
        · rw [upd_ne clf, upd_ne clt]
          exact hcl9
        · omega
        · omega
        · rw [upd_same, List.map_append]
          rfl
        · intro tm hm
          rcases List.mem_append.mp hm with z | z
          · exact okb tm z
          · cases List.mem_singleton.mp z
            exact ⟨r40, by show r4 ≤ 9; omega, by show ks.length ≤ 8; omega, okk⟩
        · refine paired_snoc (L2.Paired.mapP pb8 fun a t q => q.same keep9) ⟨D, ds, ?_, ?_, L2.Paired.mapP pk fun a t q => q.same keep9⟩
          · exact of2_put ft.symm clt.symm nt0 (by rw [upd_ne ft.symm, upd_same])
          · exact of2_put fD.symm clD.symm nD0 (by rw [upd_ne fD.symm, upd_ne Dt]; exact hD9)
    · rintro σ H6 ⟨v5, v6, v7, v8, lf, rfl, B6, y6, hso6, ⟨cs, hcl6, el, lf8, w8c⟩, as, bd, hf6, eb, okb, pb, ndb⟩
      have less : Same (Of1 f (Of1 cl (Nw H H6))) (Nw H H6) := (of1_less _ _).trans (of1_less _ _)
      exact ⟨_, rfl, k f bd H6 ⟨⟨by omega, okb⟩, List.Sublist.nodup (List.sublist_append_left _ _) (ndb _ hcl6)⟩ ⟨as, by rw [nw_eq nf0]; exact hf6, L2.Paired.mapP pb fun a t q => q.same less⟩ B6 y6⟩
end
end My
namespace My
open PySem PySem.Spec PyProof.Rows L2
/-- all keepers of a board -/
def allK (bd : List Tm) : List Kp := bd.flatMap (·.ks)
theorem allK_more {bd : List Tm} {i : Nat} {t : Tm} (h : bd[i]? = some t) : allK (bd.take (i + 1)) = allK (bd.take i) ++ t.ks := by
  unfold allK
  rw [List.take_succ, h, List.flatMap_append]
  show _ ++ List.flatMap _ [t] = _
  rw [List.flatMap_cons, List.flatMap_nil, List.append_nil]
theorem allK_len : ∀ bd : List Tm, (∀ t ∈ bd, TmOk t) → (allK bd).length ≤ 8 * bd.length
  | [], _ => Nat.le_refl _
  | t :: r, h => by
    have ih := allK_len r fun x hx => h x (List.mem_cons_of_mem _ hx)
    have e : allK (t :: r) = t.ks ++ allK r := List.flatMap_cons
    rw [e, List.length_append, List.length_cons]
    have := (h t List.mem_cons_self).k8
    omega
def spKo : Sp := fun vs H Q _ => ∃ (a : Addr) (bd : List Tm), vs = [.ref a] ∧ BdAt H a bd ∧ BdOk bd ∧
  ∀ (p : Addr) (as : List Addr) (H' : Hp), H p = none → H' p = some (.lst (as.map V.ref)) → Paired (KpAt H) as (allK bd) → Same H H' → Q (.ref p) H'
section
variable {P : Program} {w : World} {K : PySem.W.Frag} {mg : Str → Option Value} {base : Heap} {A : Ad}
theorem ok_keepers_of (T : Txt K mg A) : FnOk P w K mg base CX0 1 A.f_keepers_of A.d_keepers_of P_keepers_of spKo := by
  refine T.F_keepers_of.ok sc_keepers_of (fun vs H Q E h => ?_) (fun cdv A' outer s H vs Q E hr h => ?_)
  · obtain ⟨a, bd, rfl, _⟩ := h
    rfl
  · obtain ⟨a, bd, rfl, hb, ok, k⟩ := h
    refine ⟨_, (pss_one (ps_ret (pe_lc2 (own := [("team", 1), ("keeper", 2)]) (tt := tYes) (tt1 := tYes) (vs1 := [2]) (g := (gName 1)) (g1 := (gName 2)) rfl sc_keepers_of.nd (pi_listK (K := K) rfl (pv 0)) (blkOk_by (own := [("team", 1), ("keeper", 2)]) (N := N_keepers_of) (sc := defScope s_keepers_of) (by decide +kernel)) (by decide) (fun _ _ _ _ _ => (pg_name (i := 1) sc_keepers_of.nd rfl (Or.inl rfl))) (fun _ _ _ _ _ => pts_nil) (fun _ _ _ _ _ => (pi_listK (K := K) rfl (pe_ix (ix_tupK (K := K) rfl) (pv 1) pe_int (fun _ _ => rfl)))) (fun _ _ _ _ _ => (pg_name (i := 2) sc_keepers_of.nd rfl (Or.inl rfl))) (fun _ _ _ _ _ => pts_nil) (fun _ _ _ _ _ => (pv 2))))), ?_⟩
    obtain ⟨as, ha, pa⟩ := hb
    refine ⟨_, rfl, a, rfl, ⟨_, SqL.of ha⟩, fun D nD => ?_⟩
    have al := pa.length
    refine ⟨fun i m H' => m = as.length - i ∧ i ≤ as.length ∧ Same H H' ∧ ∃ ds : List Addr, H' D = some (.lst (ds.map V.ref)) ∧ Paired (KpAt H) ds (allK (bd.take i)),
      ⟨_, rfl, Nat.zero_le _, same_new nD, [], upd_same, .nil⟩, ?_⟩
    rintro i m H1 ⟨rfl, hi, s1, ds, hD, pd⟩
    have q1 : SqL K H1 a (as.map V.ref) := SqL.of (s1 _ _ ha)
    by_cases lt : i < as.length
    · refine .inr ⟨⟨_, V.ref as[i], q1, map_at (List.getElem?_eq_getElem lt)⟩, fun H' => i + 1 ≤ as.length ∧ Same H H' ∧ ∃ ds : List Addr, H' D = some (.lst (ds.map V.ref)) ∧ Paired (KpAt H) ds (allK (bd.take (i + 1))), fun H' z => ⟨as.length - (i + 1), by omega, rfl, z⟩, ?_⟩
      rintro x H2 ⟨rfl, y⟩
      have ex : V.ref as[i] = x := Option.some.inj ((map_at (f := V.ref) (List.getElem?_eq_getElem lt)).symm.trans (y _ q1))
      subst ex
      obtain ⟨t, et, tat⟩ := paired_at pa (List.getElem?_eq_getElem lt)
      obtain ⟨c, cs, ht, hc, pc⟩ := tat
      have tok := ok.ok t (List.mem_of_getElem? et)
      have cl := pc.length
      have more := allK_more et
      have hl := allK_len (bd.take i) fun x hx => ok.ok x (List.mem_of_mem_take hx)
      have t3 := ok.t3
      have k8 := tok.k8
      rw [List.length_take] at hl
      refine ⟨rfl, ?_⟩
      refine ⟨_, rfl, as[i], _, _, _, rfl, rfl, SqT.of (s1 _ _ ht), rfl, c, rfl, ⟨_, SqL.of (s1 _ _ hc)⟩, ?_⟩
      refine ⟨fun j m H' => m = cs.length - j ∧ j ≤ cs.length ∧ Same H H' ∧ ∃ ds : List Addr, H' D = some (.lst (ds.map V.ref)) ∧ Paired (KpAt H) ds (allK (bd.take i) ++ t.ks.take j),
        ⟨_, rfl, Nat.zero_le _, s1, ds, hD, by rw [List.take_zero, List.append_nil]; exact pd⟩, ?_⟩
      rintro j m H3 ⟨rfl, hj, s3, ds3, hD3, pd3⟩
      have q3 : SqL K H3 c (cs.map V.ref) := SqL.of (s3 _ _ hc)
      by_cases lj : j < cs.length
      · refine .inr ⟨⟨_, V.ref cs[j], q3, map_at (List.getElem?_eq_getElem lj)⟩, fun H' => j + 1 ≤ cs.length ∧ Same H H' ∧ ∃ ds : List Addr, H' D = some (.lst (ds.map V.ref)) ∧ Paired (KpAt H) ds (allK (bd.take i) ++ t.ks.take (j + 1)), fun H' z => ⟨cs.length - (j + 1), by omega, rfl, z⟩, ?_⟩
        rintro x H4 ⟨rfl, y⟩
        have ex : V.ref cs[j] = x := Option.some.inj ((map_at (f := V.ref) (List.getElem?_eq_getElem lj)).symm.trans (y _ q3))
        subst ex
        obtain ⟨kp, ek, kat⟩ := paired_at pc (List.getElem?_eq_getElem lj)
        have dl := pd3.length
        rw [List.length_append, List.length_take] at dl
        refine ⟨rfl, _, rfl, _, hD3, by rw [List.length_map]; exact lt_size (m := 40) (by omega) (by decide), lj, ?_, ds3 ++ [cs[j]], ?_, ?_⟩
        · exact same_over s3 nD
        · rw [upd_same, List.map_append]
          rfl
        · rw [List.take_succ, ek, ← List.append_assoc]
          exact paired_snoc pd3 kat
      · refine .inl ⟨⟨_, q3, by rw [List.length_map]; omega⟩, lt, s3, ds3, hD3, ?_⟩
        rw [more]
        have e : t.ks.take j = t.ks := List.take_of_length_le (by omega)
        rw [e] at pd3
        exact pd3
    · refine .inl ⟨⟨_, q1, by rw [List.length_map]; omega⟩, k D ds H1 nD hD ?_ s1⟩
      rw [List.take_of_length_le (by omega)] at pd
      exact pd
/-- the first keeper of a name -/
def findK (n : Str) (ks : List Kp) : Option Kp := ks.find? fun k => decide (k.name = n)
def elderV (k : Kp) : V := match k.row with
  | [] => .non
  | x :: _ => .str x
def spEldest (A : Ad) : Sp := fun vs H Q E => ∃ (a : Addr) (n : Str) (bd : List Tm), vs = [.ref a, .str n] ∧ BdAt H a bd ∧ BdOk bd ∧ n.length ≤ 100 ∧
  (∀ k, findK n (allK bd) = some k → ∀ H', Same H H' → Q (elderV k) H') ∧
  (findK n (allK bd) = none → ∀ H', Same H H' → E (.ref A.c_NoKeeper) none H')
theorem find_step {n : Str} {ks : List Kp} {i : Nat} {k : Kp} (h : ks[i]? = some k) (hn : findK n (ks.take i) = none) :
    findK n (ks.take (i + 1)) = if k.name = n then some k else none := by
  unfold findK at hn ⊢
  rw [List.take_succ, h, List.find?_append, hn]
  show (none : Option Kp).or (List.find? _ [k]) = _
  rw [Option.none_or, List.find?_cons, List.find?_nil]
  by_cases e : k.name = n
  · rw [if_pos e, decide_eq_true e]
  · rw [if_neg e, decide_eq_false e]
theorem find_pre {n : Str} {ks : List Kp} {i : Nat} {k : Kp} (h : findK n (ks.take i) = some k) : findK n ks = some k := by
  unfold findK at h ⊢
  have e : ks = ks.take i ++ ks.drop i := (List.take_append_drop i ks).symm
  rw [e, List.find?_append, h]
  rfl
def spCalled (A : Ad) : Sp := fun vs H Q E => ∃ (a : Addr) (n : Str) (bd : List Tm), vs = [.ref a, .str n] ∧ BdAt H a bd ∧ BdOk bd ∧ n.length ≤ 100 ∧
  (∀ k, findK n (allK bd) = some k → ∀ x H', Same H H' → KpAt H' x k → Q (.ref x) H') ∧
  (findK n (allK bd) = none → ∀ H', Same H H' → E (.ref A.c_NoKeeper) none H')
theorem ok_keeper_called (T : Txt K mg A) : FnOk P w K mg base (L2.CX P w) 2 A.f_keeper_called A.d_keeper_called P_keeper_called (spCalled A) := by
  refine T.F_keeper_called.okX sc_keeper_called (fun vs H Q E h => ?_) (fun cdv A' outer s H vs Q E hr h => ?_)
  · obtain ⟨a, n, bd, rfl, _⟩ := h
    rfl
  · obtain ⟨a, n, bd, rfl, hb, ok, n100, kY, kN⟩ := h
    refine ⟨_, (pss_cons (ps_nox (ps_for PassesOwn.never rfl (pi_listK (K := K) rfl (pe_call (ok_keepers_of T) (hr.mono (by decide)) rfl T.g_keepers_of T.F_keepers_of.kp T.b_keepers_of .nil pass0 (pa_cons (pv 0) pa_nil))) (pg_name (i := 2) sc_keeper_called.nd rfl (Or.inl rfl))
      (pss_one (ps_if (pt_cmpR op_eq (pe_ix (ix_tupK (K := K) rfl) (pv 2) pe_int (fun _ _ => rfl)) (pv 1) (nomark _))
        (pss_one (ps_ret (pv 2)))
        pss_nil))))
    (pss_one (ps_raise rfl (takes_of rfl rfl rfl rfl) (SkE.pmk_own1 PySem.F.excBase_LookupError T.x_NoKeeper T.g_NoKeeper T.k_NoKeeper (raises_own T.bx_NoKeeper T.tx_NoKeeper) rfl (pe_joined (.cons pe_str (.cons (pe_fmt (pv 1)) .nil))))))), ?_⟩
    refine ⟨_, rfl, a, bd, rfl, hb, ok, fun p as H1 np hp pk s1 => ?_⟩
    refine ⟨p, rfl, ⟨_, SqL.of hp⟩, for_list (K := K) (a := p) (xs := as.map V.ref) (fun i σ H' => H' = H1 ∧ ∃ v, σ = [some (.ref a), some (.str n), v] ∧ findK n ((allK bd).take i) = none)
      ⟨rfl, none, rfl, rfl⟩ (fun i σ H' _ z => by rw [z.1]; exact SqL.of hp) ?_ ?_⟩
    · rintro i y σ H' hi ⟨rfl, v, rfl, hn⟩
      rw [List.getElem?_map] at hi
      cases ea : as[i]? with
      | none =>
        rw [ea] at hi
        cases hi
      | some x =>
        rw [ea] at hi
        cases hi
        obtain ⟨kp, ek, kat⟩ := paired_at pk ea
        obtain ⟨r, h1, h2⟩ := kat.same s1
        have fs := find_step ek hn
        refine ⟨_, rfl, x, _, _, _, rfl, rfl, SqT.of h1, rfl, _, rfl, rfl, _, rfl, ?_⟩
        by_cases e : kp.name = n
        · rw [decide_eq_true (show V.str kp.name = V.str n by rw [e])]
          refine iteT ?_
          rw [if_pos e] at fs
          exact ⟨_, rfl, kY kp (find_pre fs) x _ s1 (kat.same s1)⟩
        · rw [decide_eq_false (show ¬ V.str kp.name = V.str n from fun z => e (V.str.inj z))]
          refine iteF ?_
          rw [if_neg e] at fs
          exact ⟨rfl, _, rfl, fs⟩
    · rintro σ H' ⟨rfl, v, rfl, hn⟩
      rw [List.length_map, List.take_of_length_le (by rw [pk.length]; exact Nat.le_refl _)] at hn
      have e := kN hn _ s1
      have l1 : (Str.empty ++ ("no keeper is called " : Str)).length = 20 := by decide +kernel
      have sz : ∀ n : Nat, n ≤ 1000 → n ≤ sizeLine := fun n h => Nat.le_of_lt (small1000 h)
      exact ⟨_, rfl, by rw [l1]; exact sz _ (by decide), _, rfl, .inl ⟨n, rfl, sz _ (by omega), n, rfl, by rw [str_add, l1]; exact sz _ (by omega), e⟩⟩
theorem ok_eldest (T : Txt K mg A) : FnOk P w K mg base (L2.CX P w) 3 A.f_eldest A.d_eldest P_eldest (spEldest A) := by
  refine T.F_eldest.okX sc_eldest (fun vs H Q E h => ?_) (fun cdv A' outer s H vs Q E hr h => ?_)
  · obtain ⟨a, n, bd, rfl, _⟩ := h
    rfl
  · obtain ⟨a, n, bd, rfl, hb, ok, n100, kY, kN⟩ := h
    refine ⟨_, (pss_cons (ps_set (i := 2) sc_eldest.nd rfl (Or.inl rfl) (pe_ix (ix_tupK (K := K) rfl) (pe_call (ok_keeper_called T) (hr.mono (by decide)) rfl T.g_keeper_called T.F_keeper_called.kp T.b_keeper_called .nil (passes_call (takes_of rfl rfl rfl rfl) (fun _ _ _ _ h => h)) (pa_cons (pv 0) (pa_cons (pv 1) pa_nil))) pe_int (fun _ _ => rfl)))
    (pss_one (ps_ret (pe_ifExp (pt_truth (pv 2) (by intro _; rfl)) (pe_ix (ix_listK (K := K) rfl) (pv 2) pe_int (fun _ _ => rfl)) pe_non)))), ?_⟩
    refine ⟨_, rfl, _, rfl, a, n, bd, rfl, hb, ok, n100, fun kp ff x H1 s1 kat => ?_, fun hn H1 s1 => kN hn H1 s1⟩
    obtain ⟨r, h1, h2⟩ := kat
    have q := kY kp ff _ s1
    refine ⟨x, _, _, _, rfl, rfl, SqT.of h1, rfl, ?_⟩
    refine ⟨_, rfl, !(kp.row.map V.str).isEmpty, .inl ⟨_, SqL.of h2, rfl⟩, ?_⟩
    unfold elderV at q
    cases er : kp.row with
    | nil =>
      rw [er] at q
      exact q
    | cons z zs =>
      rw [er] at q h2
      exact ⟨_, rfl, r, _, _, _, rfl, rfl, SqL.of h2, atI_nat (j := 0) (v := V.str z) rfl, q⟩
end
end My
namespace My
open PySem PySem.Spec PyProof.Rows L2
theorem flat_strs (ws : List Str) : (ws.map V.str).all flatV = true := by
  rw [List.all_eq_true]
  intro x hx
  obtain ⟨z, _, rfl⟩ := List.mem_map.mp hx
  rfl
theorem inV_strs (z : Str) (ws : List Str) : inV (.str z) (ws.map V.str) = decide (z ∈ ws) := by
  induction ws with
  | nil => rfl
  | cons a r ih =>
    unfold inV at ih ⊢
    rw [List.map_cons, List.any_cons, ih]
    show (a == z || decide (z ∈ r)) = decide (z ∈ a :: r)
    by_cases h : z = a
    · subst h
      rw [beq_self_eq_true, decide_eq_true List.mem_cons_self]
      rfl
    · have e : (a == z) = false := beq_eq_false_iff_ne.mpr fun q => h q.symm
      rw [e, Bool.false_or]
      by_cases m : z ∈ r
      · rw [decide_eq_true m, decide_eq_true (List.mem_cons_of_mem _ m)]
      · rw [decide_eq_false m, decide_eq_false fun q => (List.mem_cons.mp q).elim h m]
/-- all things, keeper by keeper; the names; the names of those who have one -/
def rows (ks : List Kp) : List Str := ks.flatMap (·.row)
def nms (ks : List Kp) : List Str := ks.map (·.name)
def whs (z : Str) (ks : List Kp) : List Str := (ks.filter fun k => decide (z ∈ k.row)).map (·.name)
theorem rows_len : ∀ ks : List Kp, (∀ k ∈ ks, KpOk k) → (rows ks).length ≤ 12 * ks.length
  | [], _ => Nat.le_refl _
  | k :: r, h => by
    have a := rows_len r fun x hx => h x (List.mem_cons_of_mem _ hx)
    have b := (h k List.mem_cons_self).l12
    have e : rows (k :: r) = k.row ++ rows r := List.flatMap_cons
    rw [e, List.length_append, List.length_cons]
    omega
theorem allK_ok {bd : List Tm} (ok : BdOk bd) : ∀ k ∈ allK bd, KpOk k := fun k hk => by
  obtain ⟨t, ht, q⟩ := List.mem_flatMap.mp hk
  exact (ok.ok t ht).ok k q
theorem allK_24 {bd : List Tm} (ok : BdOk bd) : (allK bd).length ≤ 24 := by
  have a := allK_len bd ok.ok
  have b := ok.t3
  omega
theorem rows_more {ks : List Kp} {i : Nat} {k : Kp} (h : ks[i]? = some k) : rows (ks.take (i + 1)) = rows (ks.take i) ++ k.row := by
  unfold rows
  rw [List.take_succ, h, List.flatMap_append]
  show _ ++ List.flatMap _ [k] = _
  rw [List.flatMap_cons, List.flatMap_nil, List.append_nil]
/-- a new rising list of these texts -/
def Ris (xs : List Str) (H : Hp) (Q : VK) : Prop := ∀ (p : Addr) (ys : List Str) (H' : Hp), H p = none → H' p = some (.lst (ys.map V.str)) → ys.Perm xs → Sorted ys → Same H H' → Q (.ref p) H'
def spThings : Sp := fun vs H Q _ => ∃ (a : Addr) (bd : List Tm), vs = [.ref a] ∧ BdAt H a bd ∧ BdOk bd ∧ Ris (distT (rows (allK bd))) H Q
def spNames : Sp := fun vs H Q _ => ∃ (a : Addr) (bd : List Tm), vs = [.ref a] ∧ BdAt H a bd ∧ BdOk bd ∧ Ris (nms (allK bd)) H Q
def spWho : Sp := fun vs H Q _ => ∃ (a : Addr) (z : Str) (bd : List Tm), vs = [.ref a, .str z] ∧ BdAt H a bd ∧ BdOk bd ∧ Ris (whs z (allK bd)) H Q
theorem free_of {H H' : Hp} {q : Addr} (s : Same H H') (h : H' q = none) : H q = none := by
  cases e : H q with
  | none => rfl
  | some o =>
    have z := s _ _ e
    rw [h] at z
    cases z
theorem item_ref {as : List Addr} {i : Nat} {y : V} (h : (as.map V.ref)[i]? = some y) : ∃ x, as[i]? = some x ∧ y = V.ref x := by
  rw [List.getElem?_map] at h
  cases e : as[i]? with
  | none =>
    rw [e] at h
    cases h
  | some x =>
    rw [e] at h
    exact ⟨x, rfl, (Option.some.inj h).symm⟩
theorem nms_more {ks : List Kp} {i : Nat} {k : Kp} (h : ks[i]? = some k) : nms (ks.take (i + 1)) = nms (ks.take i) ++ [k.name] := by
  unfold nms
  rw [List.take_succ, h, List.map_append]
  rfl
theorem whs_more {z : Str} {ks : List Kp} {i : Nat} {k : Kp} (h : ks[i]? = some k) : whs z (ks.take (i + 1)) = whs z (ks.take i) ++ if z ∈ k.row then [k.name] else [] := by
  unfold whs
  rw [List.take_succ, h, List.filter_append, List.map_append]
  congr 1
  show (List.filter _ [k]).map _ = _
  rw [List.filter_cons, List.filter_nil]
  by_cases m : z ∈ k.row
  · rw [decide_eq_true m, if_pos m]
    rfl
  · rw [decide_eq_false m, if_neg m]
    rfl
theorem whs_len (z : Str) (ks : List Kp) : (whs z ks).length ≤ ks.length := by
  unfold whs
  rw [List.length_map]
  exact List.length_filter_le _ _
section
variable {P : Program} {w : World} {K : PySem.W.Frag} {mg : Str → Option Value} {base : Heap} {A : Ad}
theorem ok_things (T : Txt K mg A) : FnOk P w K mg base CX0 2 A.f_things A.d_things P_things spThings := by
  refine T.F_things.ok sc_things (fun vs H Q E h => ?_) (fun cdv A' outer s H vs Q E hr h => ?_)
  · obtain ⟨a, bd, rfl, _⟩ := h
    rfl
  · obtain ⟨a, bd, rfl, hb, ok, k⟩ := h
    refine ⟨_, (pss_one (ps_ret (pe_callB (cr_sortedT (X := _) rfl) (by rfl) T.n_sorted (by decide +kernel) (pa_cons (pe_sc2 (own := [("keeper", 1), ("thing", 2)]) (vs1 := [2]) (g := (gName 1)) (g1 := (gName 2)) rfl sc_things.nd (pi_listK (K := K) rfl (pe_call (ok_keepers_of T) (hr.mono (by decide)) rfl T.g_keepers_of T.F_keepers_of.kp T.b_keepers_of .nil pass0 (pa_cons (pv 0) pa_nil))) (blkOk_by (own := [("keeper", 1), ("thing", 2)]) (N := N_things) (sc := defScope s_things) (by decide +kernel)) (by decide) (fun _ _ _ _ _ => (pg_name (i := 1) sc_things.nd rfl (Or.inl rfl))) (fun _ _ _ _ _ => (pi_listK (K := K) rfl (pe_ix (ix_tupK (K := K) rfl) (pv 1) pe_int (fun _ _ => rfl)))) (fun _ _ _ _ _ => (pg_name (i := 2) sc_things.nd rfl (Or.inl rfl))) (fun _ _ _ _ _ => (pv 2))) pa_nil)))), ?_⟩
    refine ⟨_, rfl, a, bd, rfl, hb, ok, fun p as H1 np hp pk s1 => ?_⟩
    refine ⟨p, rfl, ⟨_, SqL.of hp⟩, fun D nD => ?_⟩
    have pk := L2.Paired.mapP pk fun _ _ q => q.same s1
    have al := pk.length
    have k24 := allK_24 ok
    have line : scanBound = 4096 := rfl
    refine ⟨fun i m H' => m = as.length - i ∧ i ≤ as.length ∧ Same H1 H' ∧ H' D = some (SetTx _ D (distT (rows ((allK bd).take i)))), ⟨_, rfl, Nat.zero_le _, same_new nD, upd_same⟩, ?_⟩
    rintro i m G ⟨rfl, hi, sG, hD⟩
    have q1 : SqL K G p (as.map V.ref) := SqL.of (sG _ _ hp)
    by_cases lt : i < as.length
    · refine .inr ⟨⟨_, V.ref as[i], q1, map_at (List.getElem?_eq_getElem lt)⟩, fun H' => i + 1 ≤ as.length ∧ Same H1 H' ∧ H' D = some (SetTx _ D (distT (rows ((allK bd).take (i + 1))))), fun H' z => ⟨as.length - (i + 1), by omega, rfl, z⟩, ?_⟩
      rintro x G2 ⟨rfl, y⟩
      have ex : V.ref as[i] = x := Option.some.inj ((map_at (f := V.ref) (List.getElem?_eq_getElem lt)).symm.trans (y _ q1))
      subst ex
      obtain ⟨kp, ek, kat⟩ := paired_at pk (List.getElem?_eq_getElem lt)
      obtain ⟨r, c1, c2⟩ := kat
      have h1 := sG _ _ c1
      have h2 := sG _ _ c2
      have kok := allK_ok ok kp (List.mem_of_getElem? ek)
      have rl := rows_len ((allK bd).take i) fun x hx => allK_ok ok x (List.mem_of_mem_take hx)
      rw [List.length_take] at rl
      have r12 := kok.l12
      refine ⟨rfl, ?_⟩
      refine ⟨_, rfl, as[i], _, _, _, rfl, rfl, SqT.of h1, rfl, r, rfl, ⟨_, SqL.of h2⟩, ?_⟩
      refine ⟨fun j m H' => m = kp.row.length - j ∧ j ≤ kp.row.length ∧ Same H1 H' ∧ H' D = some (SetTx _ D (distT (rows ((allK bd).take i) ++ kp.row.take j))),
        ⟨_, rfl, Nat.zero_le _, sG, by rw [List.take_zero, List.append_nil]; exact hD⟩, ?_⟩
      rintro j m G3 ⟨rfl, hj, s3, hD3⟩
      have q3 : SqL K G3 r (kp.row.map V.str) := SqL.of (s3 _ _ c2)
      by_cases lj : j < kp.row.length
      · refine .inr ⟨⟨_, V.str kp.row[j], q3, map_at (List.getElem?_eq_getElem lj)⟩, fun H' => j + 1 ≤ kp.row.length ∧ Same H1 H' ∧ H' D = some (SetTx _ D (distT (rows ((allK bd).take i) ++ kp.row.take (j + 1)))), fun H' z => ⟨kp.row.length - (j + 1), by omega, rfl, z⟩, ?_⟩
        rintro x G4 ⟨rfl, y⟩
        have ex : V.str kp.row[j] = x := Option.some.inj ((map_at (f := V.str) (List.getElem?_eq_getElem lj)).symm.trans (y _ q3))
        subst ex
        have dl := distT_len (rows ((allK bd).take i) ++ kp.row.take j)
        rw [List.length_append, List.length_take] at dl
        refine ⟨rfl, _, rfl, _, _, rfl, hD3, by omega, lj, same_over s3 nD, ?_⟩
        rw [upd_same, List.take_succ, List.getElem?_eq_getElem lj, ← List.append_assoc]
        show some (SetTx _ D (withT _ _)) = some (SetTx _ D (distT (_ ++ [kp.row[j]])))
        rw [distT_snoc]
      · refine .inl ⟨⟨_, q3, by rw [List.length_map]; omega⟩, lt, s3, ?_⟩
        rw [hD3, rows_more ek, List.take_of_length_le (l := kp.row) (by omega)]
    · refine .inl ⟨⟨_, q1, by rw [List.length_map]; omega⟩, ?_⟩
      rw [List.take_of_length_le (by omega)] at hD
      refine ⟨D, _, rfl, hD, fun ys q pm srt nq => ?_⟩
      have nq1 : H1 q = none := by
        cases e : H1 q with
        | none => rfl
        | some o =>
          have z := sG _ _ e
          rw [nq] at z
          cases z
      have nq0 : H q = none := by
        cases e : H q with
        | none => rfl
        | some o =>
          have z := s1 _ _ e
          rw [nq1] at z
          cases z
      exact k q ys _ nq0 upd_same pm srt (s1.trans (sG.trans (same_new nq)))
theorem ok_names (T : Txt K mg A) : FnOk P w K mg base CX0 2 A.f_names A.d_names P_names spNames := by
  refine T.F_names.ok sc_names (fun vs H Q E h => ?_) (fun cdv A' outer s H vs Q E hr h => ?_)
  · obtain ⟨a, bd, rfl, _⟩ := h
    rfl
  · obtain ⟨a, bd, rfl, hb, ok, k⟩ := h
    refine ⟨_, (pss_one (ps_ret (pe_callB (sortedLK (K := K) rfl) (by rfl) T.n_sorted (by decide +kernel) (pa_cons (pe_lc (own := [("keeper", 1)]) (tt := tYes) (g := (gName 1)) rfl sc_names.nd (pi_listK (K := K) rfl (pe_call (ok_keepers_of T) (hr.mono (by decide)) rfl T.g_keepers_of T.F_keepers_of.kp T.b_keepers_of .nil pass0 (pa_cons (pv 0) pa_nil))) (blkOk_by (own := [("keeper", 1)]) (N := N_names) (sc := defScope s_names) (by decide +kernel)) (fun _ _ _ _ _ => (pg_name (i := 1) sc_names.nd rfl (Or.inl rfl))) (fun _ _ _ _ _ => pts_nil) (fun _ _ _ _ _ => by exact (pe_ix (ix_tupK (K := K) rfl) (pv 1) pe_int (fun _ _ => rfl)))) pa_nil)))), ?_⟩
    refine ⟨_, rfl, a, bd, rfl, hb, ok, fun p as H1 np hp pk s1 => ?_⟩
    refine ⟨p, rfl, ⟨_, SqL.of hp⟩, fun D nD => ?_⟩
    have pk := L2.Paired.mapP pk fun _ _ q => q.same s1
    have al := pk.length
    have k24 := allK_24 ok
    refine lc_list (K := K) (a := p) (xs := as.map V.ref) (fun i G => Same H1 G ∧ G D = some (.lst ((nms ((allK bd).take i)).map V.str))) ⟨same_new nD, upd_same⟩ (fun i G _ z => SqL.of (z.1 _ _ hp)) ?_ ?_
    · rintro i x G hi ⟨sG, hD⟩
      obtain ⟨x, ex, rfl⟩ := item_ref hi
      obtain ⟨kp, ek, r, c1, c2⟩ := paired_at pk ex
      refine ⟨rfl, ?_⟩
      refine ⟨_, rfl, x, _, _, _, rfl, rfl, SqT.of (sG _ _ c1), rfl, _, hD, ?_, same_over sG nD, ?_⟩
      · rw [List.length_map]
        unfold nms
        rw [List.length_map, List.length_take]
        exact lt_size (m := 25) (by omega) (by decide)
      · rw [upd_same, nms_more ek, List.map_append]
        rfl
    · rintro G ⟨sG, hD⟩
      rw [List.length_map, List.take_of_length_le (by omega)] at hD
      refine ⟨D, _, rfl, SqL.of hD, fun ys q pm srt nq => ?_⟩
      exact k q ys _ (free_of s1 (free_of sG nq)) upd_same pm srt (s1.trans (sG.trans (same_new nq)))
theorem ok_who (T : Txt K mg A) : FnOk P w K mg base CX0 2 A.f_who A.d_who P_who spWho := by
  refine T.F_who.ok sc_who (fun vs H Q E h => ?_) (fun cdv A' outer s H vs Q E hr h => ?_)
  · obtain ⟨a, z, bd, rfl, _⟩ := h
    rfl
  · obtain ⟨a, z, bd, rfl, hb, ok, k⟩ := h
    refine ⟨_, (pss_one (ps_ret (pe_callB (sortedLK (K := K) rfl) (by rfl) T.n_sorted (by decide +kernel) (pa_cons (pe_lc (own := [("keeper", 2)]) (g := (gName 2)) rfl sc_who.nd (pi_listK (K := K) rfl (pe_call (ok_keepers_of T) (hr.mono (by decide)) rfl T.g_keepers_of T.F_keepers_of.kp T.b_keepers_of .nil pass0 (pa_cons (pv 0) pa_nil))) (blkOk_by (own := [("keeper", 2)]) (N := N_who) (sc := defScope s_who) (by decide +kernel)) (fun _ _ _ _ _ => (pg_name (i := 2) sc_who.nd rfl (Or.inl rfl))) (fun _ _ _ _ _ => pts_one (pt_cmpR (in_seqK (K := K) rfl) (pv 1) (pe_ix (ix_tupK (K := K) rfl) (pv 2) pe_int (fun _ _ => rfl)) (by rfl))) (fun _ _ _ _ _ => by exact (pe_ix (ix_tupK (K := K) rfl) (pv 2) pe_int (fun _ _ => rfl)))) pa_nil)))), ?_⟩
    refine ⟨_, rfl, a, bd, rfl, hb, ok, fun p as H1 np hp pk s1 => ?_⟩
    refine ⟨p, rfl, ⟨_, SqL.of hp⟩, fun D nD => ?_⟩
    have pk := L2.Paired.mapP pk fun _ _ q => q.same s1
    have al := pk.length
    have k24 := allK_24 ok
    refine lc_list (K := K) (a := p) (xs := as.map V.ref) (fun i G => Same H1 G ∧ G D = some (.lst ((whs z ((allK bd).take i)).map V.str))) ⟨same_new nD, upd_same⟩ (fun i G _ z => SqL.of (z.1 _ _ hp)) ?_ ?_
    · rintro i x G hi ⟨sG, hD⟩
      obtain ⟨x, ex, rfl⟩ := item_ref hi
      obtain ⟨kp, ek, r, c1, c2⟩ := paired_at pk ex
      have h1 := sG _ _ c1
      refine ⟨rfl, ?_⟩
      refine ⟨_, rfl, _, rfl, x, _, _, _, rfl, rfl, SqT.of h1, rfl, r, _, rfl, .inl (SqL.of (sG _ _ c2)), rfl, flat_strs _, _, rfl, ?_⟩
      rw [inV_strs]
      by_cases m : z ∈ kp.row
      · rw [decide_eq_true m]
        refine iteT ?_
        refine ⟨_, rfl, x, _, _, _, rfl, rfl, SqT.of h1, rfl, _, hD, ?_, same_over sG nD, ?_⟩
        · have wl := whs_len z ((allK bd).take i)
          rw [List.length_take] at wl
          rw [List.length_map]
          exact lt_size (m := 25) (by omega) (by decide)
        · rw [upd_same, whs_more ek, if_pos m, List.map_append]
          rfl
      · rw [decide_eq_false m]
        refine iteF ?_
        exact ⟨sG, by rw [whs_more ek, if_neg m, List.append_nil]; exact hD⟩
    · rintro G ⟨sG, hD⟩
      rw [List.length_map, List.take_of_length_le (by omega)] at hD
      refine ⟨D, _, rfl, SqL.of hD, fun ys q pm srt nq => ?_⟩
      exact k q ys _ (free_of s1 (free_of sG nq)) upd_same pm srt (s1.trans (sG.trans (same_new nq)))
end
end My
namespace My
open PySem PySem.Spec PyProof.Rows L2
def spWalked : Sp := fun vs H Q _ => ∃ (a : Addr) (bd : List Tm), vs = [.ref a] ∧ BdAt H a bd ∧ BdOk bd ∧
  ∀ (p p1 p2 : Addr) (ys zs : List Str) (H' : Hp), Same H H' → H' p = some (.lst [.ref p1, .ref p2]) → H' p1 = some (.lst (ys.map V.str)) → H' p2 = some (.lst (zs.map V.str)) →
    ys.Perm (distT (rows (allK bd))) → Sorted ys → zs.Perm (nms (allK bd)) → Sorted zs → Q (.ref p) H'
section
variable {P : Program} {w : World} {K : PySem.W.Frag} {mg : Str → Option Value} {base : Heap} {A : Ad}
theorem ok_all (T : Txt K mg A) : FnOk P w K mg base CX0 1 A.f_all A.d_all P_all spKo := by
  refine T.F_all.ok sc_all (fun vs H Q E h => ?_) (fun cdv A' outer s H vs Q E hr h => ?_)
  · obtain ⟨a, bd, rfl, _⟩ := h
    rfl
  · obtain ⟨a, bd, rfl, hb, ok, k⟩ := h
    refine ⟨_, (pss_cons (ps_set (i := 1) sc_all.nd rfl (Or.inl rfl) (pe_lst pa_nil))
    (pss_cons (ps_for PassesOwn.never rfl (pi_listK (K := K) rfl (pv 0)) (pg_tup rfl (pgs_cons (pg_name (i := 2) sc_all.nd rfl (Or.inl rfl)) (pgs_cons (pg_name (i := 3) sc_all.nd rfl (Or.inl rfl)) pgs_nil)))
      (pss_one (ps_set (i := 1) sc_all.nd rfl (Or.inl rfl) (pe_op op_cat (pv 1) (pv 3)))))
    (pss_one (ps_ret (pv 1))))), ?_⟩
    obtain ⟨as, ha, pa⟩ := hb
    have al := pa.length
    have k24 := allK_24 ok
    refine ⟨(show 0 ≤ sizeLine by decide), fun p np => ?_⟩
    refine ⟨_, rfl, a, rfl, ⟨_, SqL.of (same_new np _ _ ha)⟩, for_list (K := K) (a := a) (xs := as.map V.ref) (fun i σ G => Same H G ∧ ∃ (p : Addr) (ds : List Addr) (v2 v3 : Option V), σ = [some (.ref a), some (.ref p), v2, v3] ∧ H p = none ∧
      G p = some (.lst (ds.map V.ref)) ∧ Paired (KpAt H) ds (allK (bd.take i)))
      ⟨same_new np, p, [], none, none, rfl, np, upd_same, .nil⟩ (fun i σ G _ z => SqL.of (z.1 _ _ ha)) ?_ ?_⟩
    · rintro i x σ G hi ⟨sG, p, ds, v2, v3, rfl, np, hp, pd⟩
      obtain ⟨x, ex, rfl⟩ := item_ref hi
      obtain ⟨t, et, c, cs, ht, hc, pc⟩ := paired_at pa ex
      have more := allK_more et
      have dl := pd.length
      have cl := pc.length
      have k8 := (ok.ok t (List.mem_of_getElem? et)).k8
      have hl := allK_len (bd.take i) fun x hx => ok.ok x (List.mem_of_mem_take hx)
      rw [List.length_take] at hl
      have t3 := ok.t3
      refine ⟨x, _, rfl, SqT.of (sG _ _ ht), rfl, _, _, rfl, _, _, rfl, rfl, ?_⟩
      refine ⟨_, rfl, _, rfl, p, c, _, _, rfl, rfl, hp, sG _ _ hc, by rw [List.length_map, List.length_map]; exact Nat.le_of_lt (small1000 (by omega)), fun q nq => ?_⟩
      refine ⟨sG.trans (same_new nq), q, ds ++ cs, _, _, rfl, free_of sG nq, by rw [upd_same, List.map_append], ?_⟩
      rw [more]
      exact paired_app pd pc
    · rintro σ G ⟨sG, p, ds, v2, v3, rfl, np, hp, pd⟩
      rw [List.length_map, List.take_of_length_le (by omega)] at pd
      exact ⟨_, rfl, k p ds G np hp pd sG⟩
theorem ok_walked (T : Txt K mg A) : FnOk P w K mg base CX0 2 A.f_walked A.d_walked P_walked spWalked := by
  refine T.F_walked.ok sc_walked (fun vs H Q E h => ?_) (fun cdv A' outer s H vs Q E hr h => ?_)
  · obtain ⟨a, bd, rfl, _⟩ := h
    rfl
  · obtain ⟨a, bd, rfl, hb, ok, k⟩ := h
    refine ⟨_, (pss_cons (ps_set (i := 1) sc_walked.nd rfl (Or.inl rfl) (pe_lst pa_nil))
    (pss_cons (ps_for PassesOwn.never rfl (pi_listK (K := K) rfl (pe_call (ok_all T) (hr.mono (by decide)) rfl T.g_all T.F_all.kp T.b_all .nil pass0 (pa_cons (pv 0) pa_nil))) (pg_name (i := 2) sc_walked.nd rfl (Or.inl rfl))
      (pss_one (ps_set (i := 1) sc_walked.nd rfl (Or.inl rfl) (pe_op op_cat (pv 1) (pe_ix (ix_tupK (K := K) rfl) (pv 2) pe_int (fun _ _ => rfl))))))
    (pss_one (ps_ret (pe_lst (pa_cons (pe_callB (cr_sortedT (X := _) rfl) (by rfl) T.n_sorted (by decide +kernel) (pa_cons (pe_callTy (setLK (K := K) rfl rfl) (by rfl) T.n_set (by decide +kernel) (pa_cons (pv 1) pa_nil)) pa_nil)) (pa_cons (pe_callB (sortedLK (K := K) rfl) (by rfl) T.n_sorted (by decide +kernel) (pa_cons (pe_lc (own := [("keeper", 2)]) (tt := tYes) (g := (gName 2)) rfl sc_walked.nd (pi_listK (K := K) rfl (pe_call (ok_all T) (hr.mono (by decide)) rfl T.g_all T.F_all.kp T.b_all .nil pass0 (pa_cons (pv 0) pa_nil))) (blkOk_by (own := [("keeper", 2)]) (N := N_walked) (sc := defScope s_walked) (by decide +kernel)) (fun _ _ _ _ _ => (pg_name (i := 2) sc_walked.nd rfl (Or.inl rfl))) (fun _ _ _ _ _ => pts_nil) (fun _ _ _ _ _ => by exact (pe_ix (ix_tupK (K := K) rfl) (pv 2) pe_int (fun _ _ => rfl)))) pa_nil)) pa_nil))))))), ?_⟩
    have k24 := allK_24 ok
    refine ⟨(show 0 ≤ sizeLine by decide), fun p0 np0 => ?_⟩
    have s0 : Same H (upd H p0 (.lst [])) := same_new np0
    refine ⟨_, rfl, a, bd, rfl, hb.same s0, ok, fun d as H1 nd hd pk s1 => ?_⟩
    have pk := L2.Paired.mapP pk fun _ _ q => q.same s1
    have al := pk.length
    refine ⟨d, rfl, ⟨_, SqL.of hd⟩, for_list (K := K) (a := d) (xs := as.map V.ref) (fun i σ G => Same H1 G ∧ ∃ (p : Addr) (v2 : Option V), σ = [some (.ref a), some (.ref p), v2] ∧ G p = some (.lst ((rows ((allK bd).take i)).map V.str)))
      ⟨fun _ _ z => z, p0, none, rfl, s1 _ _ upd_same⟩ (fun i σ G _ z => SqL.of (z.1 _ _ hd)) ?_ ?_⟩
    · rintro i x σ G hi ⟨sG, p, v2, rfl, hp⟩
      obtain ⟨x, ex, rfl⟩ := item_ref hi
      obtain ⟨kp, ek, r, c1, c2⟩ := paired_at pk ex
      have r12 := (allK_ok ok kp (List.mem_of_getElem? ek)).l12
      have rl := rows_len ((allK bd).take i) fun x hx => allK_ok ok x (List.mem_of_mem_take hx)
      rw [List.length_take] at rl
      refine ⟨_, rfl, _, rfl, x, _, _, _, rfl, rfl, SqT.of (sG _ _ c1), rfl, p, r, _, _, rfl, rfl, hp, sG _ _ c2, by rw [List.length_map, List.length_map]; exact Nat.le_of_lt (small1000 (by omega)), fun q nq => ?_⟩
      exact ⟨sG.trans (same_new nq), q, _, rfl, by rw [upd_same, rows_more ek, List.map_append]⟩
    · rintro σ G ⟨sG, p, v2, rfl, hp⟩
      rw [List.length_map, List.take_of_length_le (by omega)] at hp
      have rl := rows_len (allK bd) (allK_ok ok)
      have line : scanBound = 4096 := rfl
      have sHG : Same H G := s0.trans (s1.trans sG)
      -- sorted(set(some))
      refine ⟨_, rfl, p, _, rfl, SqL.of hp, by omega, fun q nq => ?_⟩
      refine ⟨q, _, rfl, upd_same, fun ys p1 pm srt np1 => ?_⟩
      have s2 : Same G (upd (upd G q (SetTx _ q (distT (rows (allK bd))))) p1 (.lst (ys.map V.str))) := (same_new nq).trans (same_new np1)
      -- sorted([keeper[0] ..])
      refine ⟨_, rfl, a, bd, rfl, hb.same (sHG.trans s2), ok, fun d2 as2 H2 nd2 hd2 pk2 s3 => ?_⟩
      refine ⟨d2, rfl, ⟨_, SqL.of hd2⟩, fun D nD => ?_⟩
      have pk2 := L2.Paired.mapP pk2 fun _ _ q => q.same s3
      have al2 := pk2.length
      refine lc_list (K := K) (a := d2) (xs := as2.map V.ref) (fun i G => Same H2 G ∧ G D = some (.lst ((nms ((allK bd).take i)).map V.str))) ⟨same_new nD, upd_same⟩ (fun i G _ z => SqL.of (z.1 _ _ hd2)) ?_ ?_
      · rintro i x G hi ⟨sG, hD⟩
        obtain ⟨x, ex, rfl⟩ := item_ref hi
        obtain ⟨kp, ek, r, c1, c2⟩ := paired_at pk2 ex
        refine ⟨rfl, ?_⟩
        refine ⟨_, rfl, x, _, _, _, rfl, rfl, SqT.of (sG _ _ c1), rfl, _, hD, ?_, same_over sG nD, ?_⟩
        · rw [List.length_map]
          unfold nms
          rw [List.length_map, List.length_take]
          exact lt_size (m := 25) (by omega) (by decide)
        · rw [upd_same, nms_more ek, List.map_append]
          rfl
      · rintro G2 ⟨s4, hD⟩
        rw [List.length_map, List.take_of_length_le (by omega)] at hD
        refine ⟨D, _, rfl, SqL.of hD, fun zs p2 pm2 srt2 np2 => ?_⟩
        have h1 : upd G2 p2 (.lst (zs.map V.str)) p1 = some (.lst (ys.map V.str)) := ((s3.trans s4).trans (same_new np2)) _ _ upd_same
        refine ⟨(show 2 ≤ sizeLine by decide), fun t nt => ?_⟩
        exact k t p1 p2 ys zs _ (sHG.trans (s2.trans (s3.trans (s4.trans ((same_new np2).trans (same_new nt)))))) upd_same ((same_new nt) _ _ h1) ((same_new nt) _ _ upd_same) pm srt pm2 srt2
end
end My
namespace My
open PySem PySem.Spec PyProof.Rows L2
/-- the same text, or lists of the same, so deep -/
def Tw : Nat → Hp → V → V → Prop
  | 0, _, x, y => ∃ z, x = .str z ∧ y = .str z
  | n + 1, H, x, y => (∃ z, x = .str z ∧ y = .str z) ∨ ∃ a c xs ys, x = .ref a ∧ y = .ref c ∧ H a = some (.lst xs) ∧ H c = some (.lst ys) ∧ xs.length ≤ 1000 ∧ Paired (Tw n H) xs ys
theorem Tw.same {H H' : Hp} (s : Same H H') : ∀ {n : Nat} {x y : V}, Tw n H x y → Tw n H' x y
  | 0, _, _, h => h
  | n + 1, _, _, .inl h => .inl h
  | n + 1, _, _, .inr ⟨a, c, xs, ys, e1, e2, h1, h2, l, p⟩ => .inr ⟨a, c, xs, ys, e1, e2, s _ _ h1, s _ _ h2, l, L2.Paired.mapP p fun _ _ q => Tw.same s q⟩
theorem Tw.text {H : Hp} : ∀ (n : Nat) (z : Str), Tw n H (.str z) (.str z)
  | 0, z => ⟨z, rfl, rfl⟩
  | _ + 1, z => .inl ⟨z, rfl, rfl⟩
theorem Tw.texts {H : Hp} {a c : Addr} {n : Nat} {xs : List Str} (h1 : H a = some (.lst (xs.map V.str))) (h2 : H c = some (.lst (xs.map V.str))) (l : xs.length ≤ 1000) : Tw (n + 1) H (.ref a) (.ref c) := by
  refine .inr ⟨a, c, _, _, rfl, rfl, h1, h2, by rw [List.length_map]; exact l, ?_⟩
  clear h1 h2 l
  induction xs with
  | nil => exact .nil
  | cons x r ih => exact .cons (Tw.text n x) ih
def spAl : Nat → Sp
  | 0 => fun _ _ _ _ => False
  | n + 1 => fun vs H Q _ => ∃ x y, vs = [x, y] ∧ Tw n H x y ∧ ∀ H', Same H H' → Q (.bl true) H'
theorem kS (K : PySem.W.Frag) : PySem.W.kitAny K (.type "str") [.type "list", .type "tuple"] = some false :=
  kitAny_cons (kit_ty (by decide +kernel : kitB "str" "list" = some false)) (fun _ => kitAny_cons (kit_ty (by decide +kernel : kitB "str" "tuple" = some false)) (fun _ => kitAny_nil) (fun e => nomatch e)) (fun e => nomatch e)
theorem kL (K : PySem.W.Frag) : PySem.W.kitAny K (.type "list") [.type "list", .type "tuple"] = some true :=
  kitAny_cons (kit_ty (by decide +kernel : kitB "list" "list" = some true)) (fun e => nomatch e) (fun _ => rfl)
theorem free_of2 {H H' : Hp} {q : Addr} (s : Same H H') (h : H' q = none) : H q = none := by
  cases e : H q with
  | none => rfl
  | some o =>
    have z := s _ _ e
    rw [h] at z
    cases z
section
variable {P : Program} {w : World} {K : PySem.W.Frag} {mg : Str → Option Value} {base : Heap} {A : Ad}
theorem alike_step (T : Txt K mg A) {n : Nat} (ih : FnOk P w K mg base CX0 n A.f_alike A.d_alike P_alike (spAl n)) : FnOk P w K mg base CX0 (n + 1) A.f_alike A.d_alike P_alike (spAl (n + 1)) := by
  refine T.F_alike.ok sc_alike (fun vs H Q E h => ?_) (fun cdv A' outer s H vs Q E hr h => ?_)
  · obtain ⟨x, y, rfl, _⟩ := h
    rfl
  · obtain ⟨x, y, rfl, tw, k⟩ := h
    refine ⟨_, (pss_cons (ps_if (pt_val (pe_callB call_isiT (by rfl) T.n_isinstance (by decide +kernel) (pa_cons (pv 1) (pa_cons (pe_tup (pa_cons (pe_bltn (by rfl) T.n_list (by decide +kernel) (show RelV (.ty "list") (.type "list") from rfl)) (pa_cons (pe_bltn (by rfl) T.n_tuple (by decide +kernel) (show RelV (.ty "tuple") (.type "tuple") from rfl)) pa_nil))) pa_nil))))
      (pss_cons (ps_if (PW.pt (pw_or (pt_not (pt_val (pe_callB call_isiT (by rfl) T.n_isinstance (by decide +kernel) (pa_cons (pv 0) (pa_cons (pe_tup (pa_cons (pe_bltn (by rfl) T.n_list (by decide +kernel) (show RelV (.ty "list") (.type "list") from rfl)) (pa_cons (pe_bltn (by rfl) T.n_tuple (by decide +kernel) (show RelV (.ty "tuple") (.type "tuple") from rfl)) pa_nil))) pa_nil))))) (pw_or1 (pt_cmpR op_ne (pe_callB call_isi (by rfl) T.n_isinstance (by decide +kernel) (pa_cons (pv 0) (pa_cons (pe_bltn (by rfl) T.n_list (by decide +kernel) (show RelV (.ty "list") (.type "list") from rfl)) pa_nil))) (pe_callB call_isi (by rfl) T.n_isinstance (by decide +kernel) (pa_cons (pv 1) (pa_cons (pe_bltn (by rfl) T.n_list (by decide +kernel) (show RelV (.ty "list") (.type "list") from rfl)) pa_nil))) (nomark _)))))
        (pss_one (ps_ret pe_bl))
        pss_nil)
      (pss_one (ps_ret (pe_and (pe_cmpR op_eq (pe_callB (len_seqK (K := K) rfl) (by rfl) T.n_len PySem.boot_len (pa_cons (pv 0) pa_nil)) (pe_callB (len_seqK (K := K) rfl) (by rfl) T.n_len PySem.boot_len (pa_cons (pv 1) pa_nil)) (nomark _)) (pe_one (pe_callB (allBK (K := K) rfl rfl) (by rfl) T.n_all (by decide +kernel) (pa_cons (pe_lc (own := [("k", 2)]) (tt := tYes) (g := (gName 2)) rfl sc_alike.nd (pi_range1 (by rfl) T.n_range (pa_cons (pe_callB (len_seqK (K := K) rfl) (by rfl) T.n_len PySem.boot_len (pa_cons (pv 1) pa_nil)) pa_nil)) (blkOk_by (own := [("k", 2)]) (N := N_alike) (sc := defScope s_alike) (by decide +kernel)) (fun _ _ _ _ _ => (pg_name (i := 2) sc_alike.nd rfl (Or.inl rfl))) (fun _ _ _ _ _ => pts_nil) (fun _ _ _ _ _ => by exact (pe_call ih (hr.mono (Nat.le_refl _)) rfl T.g_alike T.F_alike.kp T.b_alike .nil pass0 (pa_cons (pe_ix (ix_listK (K := K) rfl) (pv 0) (pv 2) (fun _ _ => rfl)) (pa_cons (pe_ix (ix_listK (K := K) rfl) (pv 1) (pv 2) (fun _ _ => rfl)) pa_nil))))) pa_nil)))))))
      pss_nil)
    (pss_cons (ps_if (PW.pt (pw_or (pt_val (pe_callB call_isi (by rfl) T.n_isinstance (by decide +kernel) (pa_cons (pv 1) (pa_cons (pe_bltn (by rfl) T.n_bool (by decide +kernel) (show RelV (.ty "bool") (.type "bool") from rfl)) pa_nil)))) (pw_or1 (pt_val (pe_callB call_isi (by rfl) T.n_isinstance (by decide +kernel) (pa_cons (pv 0) (pa_cons (pe_bltn (by rfl) T.n_bool (by decide +kernel) (show RelV (.ty "bool") (.type "bool") from rfl)) pa_nil)))))))
      (pss_one (ps_ret (pe_and (pe_callB call_isi (by rfl) T.n_isinstance (by decide +kernel) (pa_cons (pv 1) (pa_cons (pe_bltn (by rfl) T.n_bool (by decide +kernel) (show RelV (.ty "bool") (.type "bool") from rfl)) pa_nil))) (pe_and (pe_callB call_isi (by rfl) T.n_isinstance (by decide +kernel) (pa_cons (pv 0) (pa_cons (pe_bltn (by rfl) T.n_bool (by decide +kernel) (show RelV (.ty "bool") (.type "bool") from rfl)) pa_nil))) (pe_one (pe_cmpR op_eq (pv 0) (pv 1) (nomark _)))))))
      pss_nil)
    (pss_cons (ps_if (PW.pt (pw_or (pt_val (pe_callB call_isi (by rfl) T.n_isinstance (by decide +kernel) (pa_cons (pv 1) (pa_cons (pe_bltn (by rfl) T.n_str (by decide +kernel) (show RelV (.ty "str") (.type "str") from rfl)) pa_nil)))) (pw_or1 (pt_val (pe_callB call_isi (by rfl) T.n_isinstance (by decide +kernel) (pa_cons (pv 0) (pa_cons (pe_bltn (by rfl) T.n_str (by decide +kernel) (show RelV (.ty "str") (.type "str") from rfl)) pa_nil)))))))
      (pss_one (ps_ret (pe_and (pe_callB call_isi (by rfl) T.n_isinstance (by decide +kernel) (pa_cons (pv 1) (pa_cons (pe_bltn (by rfl) T.n_str (by decide +kernel) (show RelV (.ty "str") (.type "str") from rfl)) pa_nil))) (pe_and (pe_callB call_isi (by rfl) T.n_isinstance (by decide +kernel) (pa_cons (pv 0) (pa_cons (pe_bltn (by rfl) T.n_str (by decide +kernel) (show RelV (.ty "str") (.type "str") from rfl)) pa_nil))) (pe_one (pe_cmpR op_eq (pv 0) (pv 1) (nomark _)))))))
      pss_nil)
    (pss_one (ps_ret (pe_and (pe_callB call_isi (by rfl) T.n_isinstance (by decide +kernel) (pa_cons (pv 0) (pa_cons (pe_bltn (by rfl) T.n_int (by decide +kernel) (show RelV (.ty "int") (.type "int") from rfl)) pa_nil))) (pe_one (pe_cmpR op_eq (pv 0) (pv 1) (nomark _))))))))), ?_⟩
    have cls : Paired ClsV [.ty "list", .ty "tuple"] [.type "list", .type "tuple"] := .cons (.ty _) (.cons (.ty _) .nil)
    have key : (∃ z, x = .str z ∧ y = .str z) ∨ ∃ m a c xs ys, n = m + 1 ∧ x = .ref a ∧ y = .ref c ∧ H a = some (.lst xs) ∧ H c = some (.lst ys) ∧ xs.length ≤ 1000 ∧ Paired (Tw m H) xs ys := by
      match n, tw with
      | 0, h => exact .inl h
      | _ + 1, .inl h => exact .inl h
      | m + 1, .inr ⟨a, c, xs, ys, h⟩ => exact .inr ⟨m, a, c, xs, ys, rfl, h⟩
    refine ⟨_, rfl, (show 2 ≤ sizeLine by decide), fun t nt => ?_⟩
    have s1 : Same H (upd H t (.tup [.ty "list", .ty "tuple"])) := same_new nt
    rcases key with ⟨z, rfl, rfl⟩ | ⟨m, a, c, xs, ys, rfl, rfl, rfl, ha, hc, lx, pr⟩
    · refine ⟨_, t, _, _, _, _, rfl, upd_same, cls, .base (.str _), kS K, _, rfl, iteF ?_⟩
      have iB := kit_ty (K := K) (by decide +kernel : kitB "str" "bool" = some false)
      have iS := kit_ty (K := K) (by decide +kernel : kitB "str" "str" = some true)
      refine ⟨_, rfl, _, _, _, _, _, rfl, .ty _, .base (.str _), iB, _, rfl, iteF ?_⟩
      refine ⟨_, rfl, _, _, _, _, _, rfl, .ty _, .base (.str _), iB, _, rfl, iteF ?_⟩
      refine ⟨_, rfl, _, _, _, _, _, rfl, .ty _, .base (.str _), iS, _, rfl, iteT ?_⟩
      refine ⟨_, rfl, _, _, _, _, _, rfl, .ty _, .base (.str _), iS, _, rfl, iteT ?_⟩
      refine ⟨_, rfl, _, _, _, _, _, rfl, .ty _, .base (.str _), iS, _, rfl, iteT ?_⟩
      refine ⟨_, rfl, _, rfl, rfl, ?_⟩
      rw [decide_eq_true (show V.str z = V.str z from rfl)]
      exact k _ s1
    · refine ⟨_, t, _, _, _, _, rfl, upd_same, cls, .base (.lst (s1 _ _ hc)), kL K, _, rfl, iteT ?_⟩
      refine ⟨_, rfl, (show 2 ≤ sizeLine by decide), fun t2 nt2 => ?_⟩
      have s2 := s1.trans (same_new (o := .tup [.ty "list", .ty "tuple"]) nt2)
      refine ⟨_, t2, _, _, _, _, rfl, upd_same, cls, .base (.lst (s2 _ _ ha)), kL K, _, rfl, iteF ?_⟩
      have iL := kit_ty (K := K) (by decide +kernel : kitB "list" "list" = some true)
      have ha2 := s2 _ _ ha
      have hc2 := s2 _ _ hc
      have ly := pr.length
      refine ⟨_, rfl, _, _, _, _, _, rfl, .ty _, .base (.lst ha2), iL, ?_⟩
      refine ⟨_, rfl, _, _, _, _, _, rfl, .ty _, .base (.lst hc2), iL, rfl, _, rfl, iteF ?_⟩
      refine ⟨_, rfl, a, xs, rfl, .inl (SqL.of ha2), _, rfl, c, ys, rfl, .inl (SqL.of hc2), rfl, _, rfl, ?_⟩
      rw [decide_eq_true (show V.int xs.length = V.int ys.length by rw [ly])]
      refine iteT ?_
      refine ⟨_, rfl, c, ys, rfl, .inl (SqL.of hc2), _, rfl, by omega, by omega, fun D nD => ?_⟩
      refine lc_range (lo := 0) (n := (ys.length : Int).toNat) (fun i G => Same H G ∧ G D = some (.lst (((List.replicate i true)).map V.bl)) ∧ H D = none) ⟨s2.trans (same_new nD), upd_same, free_of2 s2 nD⟩ ?_ ?_
      · rintro i G hi ⟨sG, hD, nD0⟩
        rw [Int.toNat_natCast] at hi
        obtain ⟨x, y, ex, ey, txy⟩ : ∃ x y, xs[i]? = some x ∧ ys[i]? = some y ∧ Tw m H x y := by
          obtain ⟨y, e, q⟩ := paired_at pr (List.getElem?_eq_getElem (by omega : i < xs.length))
          exact ⟨_, y, List.getElem?_eq_getElem _, e, q⟩
        refine ⟨rfl, ?_⟩
        refine ⟨_, rfl, _, rfl, a, _, _, _, rfl, rfl, SqL.of (sG _ _ ha), (by rw [Int.zero_add]; exact atI_nat ex), _, rfl, _, rfl, c, _, _, _, rfl, rfl, SqL.of (sG _ _ hc), (by rw [Int.zero_add]; exact atI_nat ey), x, y, rfl, txy.same sG, fun G2 s3 => ?_⟩
        refine ⟨_, s3 _ _ hD, ?_, same_over (sG.trans s3) nD0, ?_, nD0⟩
        · rw [List.length_map, List.length_replicate]
          exact lt_size (m := 1000) (by omega) (by decide)
        · rw [upd_same, List.replicate_succ', List.map_append]
          rfl
      · rintro G ⟨sG, hD, _⟩
        refine ⟨D, _, rfl, SqL.of hD, ?_⟩
        have e : (List.replicate (ys.length : Int).toNat true).all id = true := by
          rw [List.all_eq_true]
          exact fun b hb => (List.mem_replicate.mp hb).2
        rw [e]
        exact k G sG
theorem ok_alike (T : Txt K mg A) : ∀ n, FnOk P w K mg base CX0 n A.f_alike A.d_alike P_alike (spAl n)
  | 0 => ⟨fun _ _ _ _ h => h.elim, fun _ _ _ _ _ _ _ _ _ _ _ _ _ h => h.elim⟩
  | n + 1 => alike_step T (ok_alike T n)
end
end My
/-! boards as Python data, and how long their repr is -/
namespace My
open PySem PySem.Spec PyProof.Rows L2
def dStrs (ws : List Str) : PyData := .list (ws.map PyData.str)
def dKp (k : Kp) : PyData := .tuple [.str k.name, .int k.room, .bool k.whole, dStrs k.row]
def dTm (t : Tm) : PyData := .tuple [.int t.least, .list (t.ks.map dKp)]
def dBd (bd : List Tm) : PyData := .list (bd.map dTm)
section
variable {K : PySem.W.Frag} {H : Hp}
theorem dp_strs : ∀ ws : List Str, DpAll K H (ws.map V.str) (ws.map PyData.str)
  | [] => .nil
  | x :: r => .cons (.str x) (dp_strs r)
theorem dp_pair {α : Type} {F : Addr → α → Prop} {d : α → PyData} (h : ∀ a x, F a x → Dp K H (.ref a) (d x)) : ∀ {as : List Addr} {xs : List α}, Paired F as xs → DpAll K H (as.map V.ref) (xs.map d)
  | _, _, .nil => .nil
  | _, _, .cons q r => .cons (h _ _ q) (dp_pair h r)
theorem dp_kp {a : Addr} {k : Kp} (h : KpAt H a k) : Dp K H (.ref a) (dKp k) := by
  obtain ⟨r, h1, h2⟩ := h
  exact .tup (SqT.of h1) (.cons (.str _) (.cons (.int _) (.cons (.bl _) (.cons (.lst (SqL.of h2) (dp_strs _)) .nil))))
theorem dp_tm {a : Addr} {t : Tm} (h : TmAt H a t) : Dp K H (.ref a) (dTm t) := by
  obtain ⟨c, as, h1, h2, h3⟩ := h
  exact .tup (SqT.of h1) (.cons (.int _) (.cons (.lst (SqL.of h2) (dp_pair (fun _ _ q => dp_kp q) h3)) .nil))
theorem dp_bd {a : Addr} {bd : List Tm} (h : BdAt H a bd) : Dp K H (.ref a) (dBd bd) := by
  obtain ⟨as, h1, h2⟩ := h
  exact .lst (SqL.of h1) (dp_pair (fun _ _ q => dp_tm q) h2)
end
/-! ### sizes -/
theorem from_le : ∀ (ts : List Str) (k : Nat) (acc : Str), (textFrom k acc ts).length ≤ acc.length + piled ts
  | [], _, acc => Nat.le_refl _
  | t :: r, k, acc => by
    have ih := from_le r (k + 1) (acc ++ (if k > 0 then ", " else "" : String) ++ t)
    show (textFrom (k + 1) _ r).length ≤ _
    rw [str_add, str_add] at ih
    rw [piled_cons]
    have e : (((if k > 0 then ", " else "" : String) : Str)).length ≤ 2 := by split <;> decide
    omega
theorem list_le (ts : List Str) : (listText ts).length ≤ piled ts + 2 := by
  unfold listText
  rw [str_add]
  have h := from_le ts 0 "["
  have e1 : ((("[" : String) : Str)).length = 1 := rfl
  have e2 : ((("]" : String) : Str)).length = 1 := rfl
  omega
theorem join_le : ∀ ts : List Str, (Str.join ", " ts).length ≤ piled ts
  | [] => Nat.zero_le _
  | [x] => by
    rw [piled_cons]
    show x.length ≤ _
    omega
  | x :: y :: r => by
    have ih := join_le (y :: r)
    show (x ++ ", " ++ Str.join ", " (y :: r)).length ≤ _
    have e2 : (((", " : String) : Str)).length = 2 := rfl
    rw [str_add, str_add, e2, piled_cons]
    omega
theorem tuple_le (ts : List Str) : (tupleText ts).length ≤ piled ts + 3 := by
  unfold tupleText
  rw [str_add, str_add]
  have h := join_le ts
  have e1 : ((("(" : String) : Str)).length = 1 := rfl
  have e3 : (((if ts.length == 1 then ",)" else ")" : String) : Str)).length ≤ 2 := by split <;> decide
  omega
theorem piled_le {m : Nat} : ∀ {ts : List Str}, (∀ t ∈ ts, t.length ≤ m) → piled ts ≤ (m + 2) * ts.length
  | [], _ => Nat.zero_le _
  | t :: r, h => by
    have ih := piled_le (ts := r) fun x hx => h x (List.mem_cons_of_mem _ hx)
    have h1 := h t List.mem_cons_self
    rw [piled_cons, List.length_cons, Nat.mul_add]
    omega
theorem shownAll_len : ∀ ds : List PyData, (PyData.shownAll ds).length = ds.length
  | [] => by rw [PyData.shownAll]; rfl
  | d :: r => by rw [PyData.shownAll, List.length_cons, List.length_cons, shownAll_len r]
theorem shownAll_le {m : Nat} : ∀ {ds : List PyData}, (∀ d ∈ ds, d.shown.length ≤ m) → ∀ t ∈ PyData.shownAll ds, t.length ≤ m
  | [], _, t, ht => by rw [PyData.shownAll] at ht; cases ht
  | d :: r, h, t, ht => by
    rw [PyData.shownAll] at ht
    rcases List.mem_cons.mp ht with e | e
    · rw [e]
      exact h d List.mem_cons_self
    · exact shownAll_le (fun x hx => h x (List.mem_cons_of_mem _ hx)) t e
theorem list_shown {m n : Nat} {ds : List PyData} (h : ∀ d ∈ ds, d.shown.length ≤ m) (hn : ds.length ≤ n) : (PyData.list ds).shown.length ≤ (m + 2) * n + 2 := by
  rw [PyData.shown]
  have h1 := list_le (PyData.shownAll ds)
  have h2 := piled_le (shownAll_le h)
  rw [shownAll_len] at h2
  have h3 : (m + 2) * ds.length ≤ (m + 2) * n := Nat.mul_le_mul_left _ hn
  omega
theorem int_shown {i : Int} (h0 : 0 ≤ i) (h1 : i ≤ 12) : (PyData.int i).shown.length ≤ 2 := by
  rw [PyData.shown]
  have e : i = 0 ∨ i = 1 ∨ i = 2 ∨ i = 3 ∨ i = 4 ∨ i = 5 ∨ i = 6 ∨ i = 7 ∨ i = 8 ∨ i = 9 ∨ i = 10 ∨ i = 11 ∨ i = 12 := by omega
  rcases e with e | e | e | e | e | e | e | e | e | e | e | e | e <;> (subst e; decide +kernel)
theorem str_shown {z : Str} (h : Ok8 z) : (PyData.str z).shown.length ≤ 82 := by
  rw [PyData.shown]
  have := StrLaws.reprText_len z fun c hc => Nat.lt_trans (h.lo c hc) (by decide)
  have := h.n8
  omega
theorem strs_shown {ws : List Str} (h : W8 ws) (hl : ws.length ≤ 12) : (dStrs ws).shown.length ≤ 1010 := by
  have q := list_shown (m := 82) (n := 12) (ds := ws.map PyData.str) (fun d hd => by
    obtain ⟨z, hz, rfl⟩ := List.mem_map.mp hd
    exact str_shown (h z hz)) (by rw [List.length_map]; exact hl)
  exact q
theorem kp_shown {k : Kp} (h : KpOk k) : (dKp k).shown.length ≤ 1200 := by
  unfold dKp
  rw [PyData.shown]
  have h1 := tuple_le (PyData.shownAll [.str k.name, .int k.room, .bool k.whole, dStrs k.row])
  rw [PyData.shownAll, PyData.shownAll, PyData.shownAll, PyData.shownAll, PyData.shownAll, piled_cons, piled_cons, piled_cons, piled_cons, piled_nil] at h1
  have a := str_shown h.n8
  have b := int_shown (i := k.room) (by have := h.r1; omega) h.r12
  have c := strs_shown h.w8 h.l12
  have d : (PyData.bool k.whole).shown.length ≤ 5 := by
    rw [PyData.shown]
    cases k.whole <;> decide
  rw [PyData.shownAll, PyData.shownAll, PyData.shownAll, PyData.shownAll, PyData.shownAll]
  omega
theorem tm_shown {t : Tm} (h : TmOk t) : (dTm t).shown.length ≤ 9700 := by
  unfold dTm
  rw [PyData.shown]
  have h1 := tuple_le (PyData.shownAll [.int t.least, .list (t.ks.map dKp)])
  rw [PyData.shownAll, PyData.shownAll, PyData.shownAll, piled_cons, piled_cons, piled_nil] at h1
  have b := int_shown (i := t.least) h.l0 (by have := h.l9; omega)
  have c := list_shown (m := 1200) (n := 8) (ds := t.ks.map dKp) (fun d hd => by
    obtain ⟨z, hz, rfl⟩ := List.mem_map.mp hd
    exact kp_shown (h.ok z hz)) (by rw [List.length_map]; exact h.k8)
  rw [PyData.shownAll, PyData.shownAll, PyData.shownAll]
  omega
theorem bd_shown {bd : List Tm} (h : BdOk bd) : (dBd bd).shown.length ≤ sizeLine := by
  have c := list_shown (m := 9700) (n := 3) (ds := bd.map dTm) (fun d hd => by
    obtain ⟨z, hz, rfl⟩ := List.mem_map.mp hd
    exact tm_shown (h.ok z hz)) (by rw [List.length_map]; exact h.t3)
  rw [sizeLine_eq]
  unfold dBd
  omega
/-! ### they can be shown -/
theorem all_showable : ∀ {ds : List PyData}, (∀ d ∈ ds, d.showable = true) → PyData.showableAll ds = true
  | [], _ => by rw [PyData.showableAll]
  | d :: r, h => by
    rw [PyData.showableAll, h d List.mem_cons_self, all_showable fun x hx => h x (List.mem_cons_of_mem _ hx)]
    rfl
theorem all_noDict : ∀ {ds : List PyData}, (∀ d ∈ ds, d.hasDict = false) → PyData.hasDictAll ds = false
  | [], _ => by rw [PyData.hasDictAll]
  | d :: r, h => by
    rw [PyData.hasDictAll, h d List.mem_cons_self, all_noDict fun x hx => h x (List.mem_cons_of_mem _ hx)]
    rfl
theorem all_depth {m : Nat} : ∀ {ds : List PyData}, (∀ d ∈ ds, d.depth ≤ m) → PyData.depthAll ds ≤ m
  | [], _ => by rw [PyData.depthAll]; exact Nat.zero_le _
  | d :: r, h => by
    rw [PyData.depthAll]
    exact Nat.max_le.mpr ⟨h d List.mem_cons_self, all_depth fun x hx => h x (List.mem_cons_of_mem _ hx)⟩
/-- it can be shown, is no dict and at most m deep -/
structure Shw (m : Nat) (d : PyData) : Prop where
  s : d.showable = true
  n : d.hasDict = false
  p : d.depth ≤ m
theorem shw_list {m : Nat} {ds : List PyData} (h : ∀ d ∈ ds, Shw m d) : Shw (m + 1) (.list ds) :=
  ⟨by rw [PyData.showable]; exact all_showable fun d hd => (h d hd).s, by rw [PyData.hasDict]; exact all_noDict fun d hd => (h d hd).n,
    by rw [PyData.depth]; exact Nat.succ_le_succ (all_depth fun d hd => (h d hd).p)⟩
theorem shw_tup {m : Nat} {ds : List PyData} (h : ∀ d ∈ ds, Shw m d) : Shw (m + 1) (.tuple ds) :=
  ⟨by rw [PyData.showable]; exact all_showable fun d hd => (h d hd).s, by rw [PyData.hasDict]; exact all_noDict fun d hd => (h d hd).n,
    by rw [PyData.depth]; exact Nat.succ_le_succ (all_depth fun d hd => (h d hd).p)⟩
theorem Shw.more {m n : Nat} {d : PyData} (h : Shw m d) (l : m ≤ n) : Shw n d := ⟨h.s, h.n, Nat.le_trans h.p l⟩
theorem shw_str (z : Str) : Shw 0 (.str z) := ⟨by rw [PyData.showable], by rw [PyData.hasDict], by rw [PyData.depth]; exact Nat.le_refl _⟩
theorem shw_bool (z : Bool) : Shw 0 (.bool z) := ⟨by rw [PyData.showable], by rw [PyData.hasDict], by rw [PyData.depth]; exact Nat.le_refl _⟩
theorem shw_int {i : Int} (h0 : 0 ≤ i) (h1 : i ≤ 1000) : Shw 0 (.int i) := ⟨by
    rw [PyData.showable]
    have q : i.natAbs.log2 < 10 := PySem.Flt.log2_lt_of (by decide) (by omega)
    exact decide_eq_true (by omega), by rw [PyData.hasDict], by rw [PyData.depth]; exact Nat.le_refl _⟩
theorem shw_strs (ws : List Str) : Shw 1 (dStrs ws) := shw_list fun d hd => by
  obtain ⟨z, _, rfl⟩ := List.mem_map.mp hd
  exact shw_str z
theorem shw_kp {k : Kp} (h : KpOk k) : Shw 2 (dKp k) := shw_tup fun d hd => by
  simp only [List.mem_cons, List.not_mem_nil, or_false] at hd
  rcases hd with e | e | e | e <;> rw [e]
  · exact (shw_str _).more (by decide)
  · exact (shw_int (by have := h.r1; omega) (by have := h.r12; omega)).more (by decide)
  · exact (shw_bool _).more (by decide)
  · exact shw_strs _
theorem shw_tm {t : Tm} (h : TmOk t) : Shw 4 (dTm t) := shw_tup fun d hd => by
  simp only [List.mem_cons, List.not_mem_nil, or_false] at hd
  rcases hd with e | e <;> rw [e]
  · exact (shw_int h.l0 (by have := h.l9; omega)).more (by decide)
  · refine shw_list fun d hd => ?_
    obtain ⟨z, hz, rfl⟩ := List.mem_map.mp hd
    exact shw_kp (h.ok z hz)
theorem shw_bd {bd : List Tm} (h : BdOk bd) : Shw 5 (dBd bd) := shw_list fun d hd => by
  obtain ⟨z, hz, rfl⟩ := List.mem_map.mp hd
  exact shw_tm (h.ok z hz)
end My
namespace My
open PySem PySem.Spec PyProof.Rows L2
theorem passX {P : Program} {w : World} {X : Cx} : Passes (L2.CX P w) X E0 := fun _ _ _ _ _ _ _ h => by
  obtain ⟨_, _, _, _, _, _, _, _, _, _, _, _, z⟩ := h
  exact z.elim
theorem find_nd {bd : List Tm} (nd : ((bd.flatMap (·.ks)).map (·.name)).Nodup) {k : Kp} (h : k ∈ allK bd) : findK k.name (allK bd) = some k := by
  have key : ∀ ks : List Kp, (ks.map (·.name)).Nodup → k ∈ ks → ks.find? (fun x => decide (x.name = k.name)) = some k := fun ks => by
    induction ks with
    | nil => exact fun _ z => nomatch z
    | cons x r ih =>
      intro nd z
      rw [List.map_cons, List.nodup_cons] at nd
      rw [List.find?_cons]
      by_cases e : x.name = k.name
      · rcases List.mem_cons.mp z with y | y
        · rw [y, decide_eq_true rfl]
        · exact absurd (List.mem_map.mpr ⟨k, y, e.symm⟩) nd.1
      · rw [decide_eq_false e]
        exact ih nd.2 ((List.mem_cons.mp z).resolve_left fun y => e (by rw [y]))
  exact key _ nd h
theorem strOk_lo {z : Str} (h : Lo z) : PyData.strOk z = true := by
  unfold PyData.strOk
  rw [← Array.all_toList, List.all_eq_true]
  exact fun c hc => decide_eq_true (Nat.lt_trans (h c hc) (by decide))
theorem lay_strs : ∀ ws : List Str, W8 ws → PyData.canLayAll0 (ws.map PyData.str) = true
  | [], _ => by rw [List.map_nil, PyData.canLayAll0]
  | z :: r, h => by
    rw [List.map_cons, PyData.canLayAll0, PyData.canLay0, strOk_lo (h z List.mem_cons_self).lo, lay_strs r fun y hy => h y (List.mem_cons_of_mem _ hy)]
    rfl
theorem shaped_strs {ws : List Str} (h : W8 ws) : SeqAt.shaped (dStrs ws) = true := by
  have d := (shw_strs ws).p
  unfold SeqAt.shaped dStrs
  unfold dStrs at d
  rw [PyData.canLay0, lay_strs ws h, decide_eq_true (by omega)]
  rfl
def spRight : Sp := fun vs H Q _ => ∃ (a : Addr) (bd : List Tm), vs = [.ref a] ∧ BdAt H a bd ∧ BdN bd ∧ ∀ H', Same H H' → Q (.bl true) H'
section
variable {P : Program} {w : World} {K : PySem.W.Frag} {mg : Str → Option Value} {base : Heap} {A : Ad}
theorem ok_right (T : Txt K mg A) : FnG P w K mg base CX0 7 A.f_right A.d_right P_right spRight := by
  refine okG T.F_right sc_right (fun vs H Q E h => ?_) (fun cdv A' outer s H vs Q E gd hr h => ?_)
  · obtain ⟨a, bd, rfl, _⟩ := h
    rfl
  · obtain ⟨a, bd, rfl, hb, ⟨ok, nd⟩, k⟩ := h
    have gd : (A'.deeper (envOfC "_law_right" (defScope s_right) s.heap.objs.size A.f_right cdv)).guards = some [] := gd
    refine ⟨_, (pss_cons (ps_set (i := 1) sc_right.nd rfl (Or.inl rfl) (pe_callB (call_repr gd hr.units) (by rfl) T.n_repr (by decide +kernel) (pa_cons (pv 0) pa_nil)))
    (pss_cons (ps_set (i := 2) sc_right.nd rfl (Or.inl rfl) (pe_call (ok_walked T) (hr.mono (by decide)) rfl T.g_walked T.F_walked.kp T.b_walked .nil pass0 (pa_cons (pv 0) pa_nil)))
    (pss_cons (ps_set (i := 3) sc_right.nd rfl (Or.inl rfl) (pe_lst (pa_cons (pe_call (ok_things T) (hr.mono (by decide)) rfl T.g_things T.F_things.kp T.b_things .nil pass0 (pa_cons (pv 0) pa_nil)) (pa_cons (pe_call (ok_names T) (hr.mono (by decide)) rfl T.g_names T.F_names.kp T.b_names .nil pass0 (pa_cons (pv 0) pa_nil)) pa_nil))))
    (pss_cons (ps_if (pt_not (pt_val (pe_call (ok_alike T 3) (hr.mono (by decide)) rfl T.g_alike T.F_alike.kp T.b_alike .nil pass0 (pa_cons (pv 3) (pa_cons (pv 2) pa_nil)))))
      (pss_one (ps_ret pe_bl))
      pss_nil)
    (pss_cons (ps_expr (pe_K (K := K) rfl (pe_bm PySem.F.plainAttrs_list PySem.F.slot_list_append PySem.F.type_list_append mt_append (by exact (pe_ix (ix_listK (K := K) rfl) (pv 3) pe_int (fun _ _ => rfl))) (by exact (pa_cons pe_str pa_nil)))))
    (pss_cons (ps_expr (pe_K0 (K := K) rfl (pe_bm0 PySem.F.plainAttrs_list PySem.F.slot_list_clear PySem.F.type_list_clear mt_clear (by exact (pe_ix (ix_listK (K := K) rfl) (pv 3) pe_int (fun _ _ => rfl))))))
    (pss_cons (ps_if (pt_not (pt_val (pe_call (ok_alike T 3) (hr.mono (by decide)) rfl T.g_alike T.F_alike.kp T.b_alike .nil pass0 (pa_cons (pe_lst (pa_cons (pe_callKw (ok_things T) (hr.mono (by decide)) rfl T.g_things T.F_things.kp (kb_things T) pass0 (pk_cons (pv 0) pk_nil)) (pa_cons (pe_callKw (ok_names T) (hr.mono (by decide)) rfl T.g_names T.F_names.kp (kb_names T) pass0 (pk_cons (pv 0) pk_nil)) pa_nil))) (pa_cons (pv 2) pa_nil)))))
      (pss_one (ps_ret pe_bl))
      pss_nil)
    (pss_cons (ps_for PassesOwn.never rfl (pi_listK (K := K) rfl (pe_op op_cat (pe_op op_cat (pe_ix (ix_listK (K := K) rfl) (pv 2) pe_int (fun _ _ => rfl)) (pe_ix (ix_listK (K := K) rfl) (pv 2) pe_int (fun _ _ => rfl))) (pe_lst (pa_cons pe_str (pa_cons pe_str (pa_cons pe_str (pa_cons pe_str pa_nil))))))) (pg_name (i := 4) sc_right.nd rfl (Or.inr rfl))
      (pss_cons (ps_set (i := 5) sc_right.nd rfl (Or.inl rfl) (pe_callB (sortedLK (K := K) rfl) (by rfl) T.n_sorted (by decide +kernel) (pa_cons (pe_lc (own := [("keeper", 12)]) (g := (gName 12)) rfl sc_right.nd (pi_listK (K := K) rfl (pe_call (ok_all T) (hr.mono (by decide)) rfl T.g_all T.F_all.kp T.b_all .nil pass0 (pa_cons (pv 0) pa_nil))) (blkOk_by (own := [("keeper", 12)]) (N := N_right) (sc := defScope s_right) (by decide +kernel)) (fun _ _ _ _ _ => (pg_name (i := 12) sc_right.nd rfl (Or.inl rfl))) (fun _ _ _ _ _ => pts_one (pt_cmpR (in_seqK (K := K) rfl) (pv 4) (pe_ix (ix_tupK (K := K) rfl) (pv 12) pe_int (fun _ _ => rfl)) (by rfl))) (fun _ _ _ _ _ => by exact (pe_ix (ix_tupK (K := K) rfl) (pv 12) pe_int (fun _ _ => rfl)))) pa_nil)))
      (pss_cons (ps_set (i := 6) sc_right.nd rfl (Or.inl rfl) (pe_call (ok_who T) (hr.mono (by decide)) rfl T.g_who T.F_who.kp T.b_who .nil pass0 (pa_cons (pv 0) (pa_cons (pv 4) pa_nil))))
      (pss_cons (ps_if (pt_not (pt_val (pe_call (ok_alike T 3) (hr.mono (by decide)) rfl T.g_alike T.F_alike.kp T.b_alike .nil pass0 (pa_cons (pv 6) (pa_cons (pv 5) pa_nil)))))
        (pss_one (ps_ret pe_bl))
        pss_nil)
      (pss_cons (ps_expr (pe_K (K := K) rfl (pe_bm PySem.F.plainAttrs_list PySem.F.slot_list_append PySem.F.type_list_append mt_append (by exact (pv 6)) (by exact (pa_cons pe_str pa_nil)))))
      (pss_one (ps_if (pt_not (pt_val (pe_call (ok_alike T 3) (hr.mono (by decide)) rfl T.g_alike T.F_alike.kp T.b_alike .nil pass0 (pa_cons (pe_callKw (ok_who T) (hr.mono (by decide)) rfl T.g_who T.F_who.kp (kb_who T) pass0 (pk_cons (pv 4) (pk_cons (pv 0) pk_nil))) (pa_cons (pv 5) pa_nil)))))
        (pss_one (ps_ret pe_bl))
        pss_nil)))))))
    (pss_cons (ps_for PassesOwn.never rfl (pi_listK (K := K) rfl (pe_call (ok_all T) (hr.mono (by decide)) rfl T.g_all T.F_all.kp T.b_all .nil pass0 (pa_cons (pv 0) pa_nil))) (pg_tup rfl (pgs_cons (pg_name (i := 7) sc_right.nd rfl (Or.inl rfl)) (pgs_cons (pg_name (i := 8) sc_right.nd rfl (Or.inl rfl)) (pgs_cons (pg_name (i := 9) sc_right.nd rfl (Or.inl rfl)) (pgs_cons (pg_name (i := 10) sc_right.nd rfl (Or.inl rfl)) pgs_nil)))))
      (pss_cons (ps_set (i := 11) sc_right.nd rfl (Or.inl rfl) (pe_call (ok_eldest T) (hr.mono (by decide)) rfl T.g_eldest T.F_eldest.kp T.b_eldest .nil passX (pa_cons (pv 0) (pa_cons (pv 7) pa_nil))))
      (pss_cons (ps_if (pt_ifE (pt_cmpR (eqDK (K := K) rfl hr.units) (pv 10) (pe_lst pa_nil) (nomark _)) (pt_cmpR op_notN (pv 11) pe_non (nomark _)) (pt_not (pt_val (pe_call (ok_alike T 3) (hr.mono (by decide)) rfl T.g_alike T.F_alike.kp T.b_alike .nil pass0 (pa_cons (pv 11) (pa_cons (pe_ix (ix_listK (K := K) rfl) (pv 10) pe_int (fun _ _ => rfl)) pa_nil))))))
        (pss_one (ps_ret pe_bl))
        pss_nil)
      (pss_one (ps_if (pt_cmpR op_ne (pe_callKw (ok_eldest T) (hr.mono (by decide)) rfl T.g_eldest T.F_eldest.kp (kb_eldest T) passX (pk_cons (pv 7) (pk_cons (pv 0) pk_nil))) (pv 11) (nomark _))
        (pss_one (ps_ret pe_bl))
        pss_nil)))))
    (pss_one (ps_ret (pe_cmpR op_eq (pe_callB (call_repr gd hr.units) (by rfl) T.n_repr (by decide +kernel) (pa_cons (pv 0) pa_nil)) (pv 1) (nomark _))))))))))))), ?_⟩
    have sh := shw_bd ok
    have k24 := allK_24 ok
    have rl := rows_len (allK bd) (allK_ok ok)
    have dl := distT_len (rows (allK bd))
    -- kept
    refine ⟨_, rfl, a, dBd bd, rfl, dp_bd hb, sh.s, sh.n, Nat.le_trans sh.p (by decide), bd_shown ok, ?_⟩
    -- due
    refine ⟨_, rfl, a, bd, rfl, hb, ok, fun d d1 d2 ys zs H1 s1 hd hd1 hd2 py sy pz sz => ?_⟩
    have ly : ys.length ≤ 288 := by rw [py.length_eq]; omega
    have lz : zs.length ≤ 24 := by rw [pz.length_eq]; unfold nms; rw [List.length_map]; exact k24
    -- found
    refine ⟨_, rfl, a, bd, rfl, hb.same s1, ok, fun q1 xs1 H2 nq1 hq1 p1 st1 s2 => ?_⟩
    obtain rfl := sorted_one (p1.trans py.symm) st1 sy
    refine ⟨_, rfl, a, bd, rfl, hb.same (s1.trans s2), ok, fun q2 xs2 H3 nq2 hq2 p2 st2 s3 => ?_⟩
    obtain rfl := sorted_one (p2.trans pz.symm) st2 sz
    refine ⟨(show 2 ≤ sizeLine by decide), fun f nf => ?_⟩
    obtain ⟨H4, e4⟩ : ∃ G, G = upd H3 f (.lst [.ref q1, .ref q2]) := ⟨_, rfl⟩
    rw [← e4]
    have s4 : Same H3 H4 := by rw [e4]; exact same_new nf
    have hf4 : H4 f = some (.lst [.ref q1, .ref q2]) := by rw [e4]; exact upd_same
    have s14 : Same H1 H4 := s2.trans (s3.trans s4)
    have hq14 := s4 _ _ (s3 _ _ hq1)
    have hq24 := s4 _ _ hq2
    have n12 : q1 ≠ q2 := ne_of_none hq1 nq2
    have n1f : q1 ≠ f := ne_of_none (s3 _ _ hq1) nf
    have n2f : q2 ≠ f := ne_of_none hq2 nf
    have nq20 := free_of s2 nq2
    -- alike
    refine ⟨_, rfl, _, rfl, .ref f, .ref d, rfl, .inr ⟨f, d, _, _, rfl, rfl, hf4, s14 _ _ hd, (show 2 ≤ 1000 by decide), .cons (Tw.texts (n := 0) hq14 (s14 _ _ hd1) (by omega)) (.cons (Tw.texts (n := 0) hq24 (s14 _ _ hd2) (by omega)) .nil)⟩, fun H5 s5 => ⟨_, rfl, iteF ?_⟩⟩
    have s15 := s14.trans s5
    -- found[0].append
    refine ⟨_, rfl, f, _, _, _, rfl, rfl, SqL.of (s5 _ _ hf4), rfl, .inl ⟨rfl, _, SqL.of (s5 _ _ hq14)⟩, q1, _, _, rfl, rfl, s5 _ _ hq14, by rw [List.length_map]; exact lt_size (m := 289) (by omega) (by decide), ?_⟩
    obtain ⟨H6, e6⟩ : ∃ G, G = upd H5 q1 (.lst (xs1.map V.str ++ [V.str "no"])) := ⟨_, rfl⟩
    rw [← e6]
    have s16 : Same H1 H6 := by rw [e6]; exact same_over s15 nq1
    have hf6 : H6 f = some (.lst [.ref q1, .ref q2]) := by rw [e6, upd_ne n1f.symm]; exact s5 _ _ hf4
    have hq26 : H6 q2 = some (.lst (xs2.map V.str)) := by rw [e6, upd_ne n12.symm]; exact s5 _ _ hq24
    -- found[1].clear
    refine ⟨_, rfl, f, _, _, _, rfl, rfl, SqL.of hf6, rfl, .inl ⟨rfl, _, SqL.of hq26⟩, q2, _, rfl, rfl, hq26, ?_⟩
    obtain ⟨H7, e7⟩ : ∃ G, G = upd H6 q2 (.lst []) := ⟨_, rfl⟩
    rw [← e7]
    have s17 : Same H1 H7 := by rw [e7]; exact same_over s16 nq20
    -- the same anew, by names
    refine ⟨_, rfl, a, bd, rfl, hb.same (s1.trans s17), ok, fun r1 us1 H8 nr1 hr1 pr1 sr1 s8 => ?_⟩
    obtain rfl := sorted_one (pr1.trans py.symm) sr1 sy
    refine ⟨_, rfl, a, bd, rfl, hb.same (s1.trans (s17.trans s8)), ok, fun r2 us2 H9 nr2 hr2 pr2 sr2 s9 => ?_⟩
    obtain rfl := sorted_one (pr2.trans pz.symm) sr2 sz
    refine ⟨(show 2 ≤ sizeLine by decide), fun g ng => ?_⟩
    obtain ⟨Ha, ea⟩ : ∃ G, G = upd H9 g (.lst [.ref r1, .ref r2]) := ⟨_, rfl⟩
    rw [← ea]
    have sa : Same H9 Ha := by rw [ea]; exact same_new ng
    have hga : Ha g = some (.lst [.ref r1, .ref r2]) := by rw [ea]; exact upd_same
    have s1a : Same H1 Ha := s17.trans (s8.trans (s9.trans sa))
    refine ⟨_, rfl, .ref g, .ref d, rfl, .inr ⟨g, d, _, _, rfl, rfl, hga, s1a _ _ hd, (show 2 ≤ 1000 by decide), .cons (Tw.texts (n := 0) (sa _ _ (s9 _ _ hr1)) (s1a _ _ hd1) (by omega)) (.cons (Tw.texts (n := 0) (sa _ _ hr2) (s1a _ _ hd2) (by omega)) .nil)⟩, fun Hb sb => ⟨_, rfl, iteF ?_⟩⟩
    have s1b := s1a.trans sb
    -- for one in due[0] + due[1] + [..]
    refine ⟨_, rfl, d, _, _, _, rfl, rfl, SqL.of (s1b _ _ hd), rfl, _, rfl, d, _, _, _, rfl, rfl, SqL.of (s1b _ _ hd), rfl, d1, d2, _, _, rfl, rfl, s1b _ _ hd1, s1b _ _ hd2, by rw [List.length_map, List.length_map]; exact Nat.le_of_lt (small1000 (by omega)), fun e1 ne1 => ?_⟩
    refine ⟨(show 4 ≤ sizeLine by decide), fun e2 ne2 => ?_⟩
    have sc1 : Same Hb (upd (upd Hb e1 (.lst (us1.map V.str ++ us2.map V.str))) e2 (.lst [V.str "a", .str "zzzzzzzz", .str "nobody", .str "mnopqraz"])) := (same_new ne1).trans (same_new ne2)
    refine ⟨e1, e2, _, _, rfl, rfl, same_new ne2 _ _ upd_same, upd_same, by rw [List.length_append, List.length_map, List.length_map]; exact Nat.le_of_lt (small1000 (by show _ + 4 ≤ _; omega)), fun e3 ne3 => ?_⟩
    obtain ⟨Hc, ec⟩ : ∃ G, G = upd (upd (upd Hb e1 (.lst (us1.map V.str ++ us2.map V.str))) e2 (.lst [V.str "a", .str "zzzzzzzz", .str "nobody", .str "mnopqraz"])) e3 (.lst (us1.map V.str ++ us2.map V.str ++ [V.str "a", .str "zzzzzzzz", .str "nobody", .str "mnopqraz"])) := ⟨_, rfl⟩
    rw [← ec]
    obtain ⟨os, eo⟩ : ∃ os : List Str, os = us1 ++ us2 ++ (["a", "zzzzzzzz", "nobody", "mnopqraz"] : List Str) := ⟨_, rfl⟩
    have he3 : Hc e3 = some (.lst (os.map V.str)) := by
      rw [ec, upd_same, eo, List.map_append, List.map_append]
      rfl
    have sbc : Same Hb Hc := by rw [ec]; exact sc1.trans (same_new ne3)
    have s1c := s1b.trans sbc
    refine ⟨e3, rfl, ⟨_, SqL.of he3⟩, for_list (K := K) (a := e3) (xs := os.map V.str) (fun i σ G => Same Hc G ∧ ∃ v4 v5 v6 v7 v8 v9 va vb vc, σ = [some (.ref a), some (.str (dBd bd).shown), some (.ref d), some (.ref f), v4, v5, v6, v7, v8, v9, va, vb, vc])
      ⟨fun _ _ z => z, _, _, _, _, _, _, _, _, _, rfl⟩ (fun i σ G _ z => SqL.of (z.1 _ _ he3)) ?_ ?_⟩
    · rintro i y σ G hi ⟨sG, v4, v5, v6, v7, v8, v9, va, vb, vc, rfl⟩
      obtain ⟨z, hz, rfl⟩ := item_str hi
      have s0G : Same H G := s1.trans (s1c.trans sG)
      -- there
      refine ⟨_, rfl, a, bd, rfl, hb.same s0G, ok, fun p as G1 np hp pk t1 => ?_⟩
      have pk := L2.Paired.mapP pk fun _ _ q => q.same t1
      have al := pk.length
      refine ⟨p, rfl, ⟨_, SqL.of hp⟩, fun D nD => ?_⟩
      refine lc_list (K := K) (a := p) (xs := as.map V.ref) (fun i F => Same G1 F ∧ F D = some (.lst ((whs z ((allK bd).take i)).map V.str))) ⟨same_new nD, upd_same⟩ (fun i F _ z => SqL.of (z.1 _ _ hp)) ?_ ?_
      · rintro j x F hj ⟨sF, hD⟩
        obtain ⟨x, ex, rfl⟩ := item_ref hj
        obtain ⟨kp, ek, r, c1, c2⟩ := paired_at pk ex
        have h1 := sF _ _ c1
        refine ⟨rfl, ?_⟩
        refine ⟨_, rfl, _, rfl, x, _, _, _, rfl, rfl, SqT.of h1, rfl, r, _, rfl, .inl (SqL.of (sF _ _ c2)), rfl, flat_strs _, _, rfl, ?_⟩
        rw [inV_strs]
        by_cases m : z ∈ kp.row
        · rw [decide_eq_true m]
          refine iteT ?_
          refine ⟨_, rfl, x, _, _, _, rfl, rfl, SqT.of h1, rfl, _, hD, ?_, same_over sF nD, ?_⟩
          · have wl := whs_len z ((allK bd).take j)
            rw [List.length_take] at wl
            rw [List.length_map]
            exact lt_size (m := 25) (by omega) (by decide)
          · rw [upd_same, whs_more ek, if_pos m, List.map_append]
            rfl
        · rw [decide_eq_false m]
          refine iteF ?_
          exact ⟨sF, by rw [whs_more ek, if_neg m, List.append_nil]; exact hD⟩
      · rintro F ⟨sF, hD⟩
        rw [List.length_map, List.take_of_length_le (by omega)] at hD
        refine ⟨D, _, rfl, SqL.of hD, fun ts w1 pt st nw1 => ?_⟩
        have tF : Same G (upd F w1 (.lst (ts.map V.str))) := t1.trans (sF.trans (same_new nw1))
        have lts : ts.length ≤ 24 := by
          rw [pt.length_eq]
          exact Nat.le_trans (whs_len _ _) k24
        -- told_one
        refine ⟨_, rfl, _, rfl, a, z, bd, rfl, hb.same (s0G.trans tF), ok, fun w2 ts2 G2 nw2 hw2 pt2 st2' t2 => ?_⟩
        obtain rfl := sorted_one (pt2.trans pt.symm) st2' st
        have hw1 := t2 _ _ (show upd F w1 (.lst (ts2.map V.str)) w1 = _ from upd_same)
        refine ⟨_, rfl, _, rfl, .ref w2, .ref w1, rfl, Tw.texts (n := 1) hw2 hw1 (by omega), fun G3 t3 => ⟨_, rfl, iteF ?_⟩⟩
        -- told_one.append
        refine ⟨_, rfl, .inl ⟨rfl, _, SqL.of (t3 _ _ hw2)⟩, w2, _, _, rfl, rfl, t3 _ _ hw2, by rw [List.length_map]; exact lt_size (m := 25) (by omega) (by decide), ?_⟩
        have w12 : w1 ≠ w2 := ne_of_none (show upd F w1 (.lst (ts2.map V.str)) w1 = _ from upd_same) nw2
        have tG : Same G (upd G3 w2 (.lst (ts2.map V.str ++ [V.str "no"]))) := same_over (tF.trans (t2.trans t3)) (free_of tF nw2)
        have hw1' : upd G3 w2 (.lst (ts2.map V.str ++ [V.str "no"])) w1 = some (.lst (ts2.map V.str)) := by rw [upd_ne w12]; exact t3 _ _ hw1
        refine ⟨_, rfl, _, rfl, a, z, bd, rfl, hb.same (s0G.trans tG), ok, fun w3 ts3 G4 nw3 hw3 pt3 st3' t4 => ?_⟩
        obtain rfl := sorted_one (pt3.trans pt2.symm) st3' st2'
        refine ⟨_, rfl, .ref w3, .ref w1, rfl, Tw.texts (n := 1) hw3 (t4 _ _ hw1') (by omega), fun G5 t5 => ⟨_, rfl, iteF ?_⟩⟩
        exact ⟨sG.trans (tG.trans (t4.trans t5)), _, _, _, _, _, _, _, _, _, rfl⟩
    · rintro σ G ⟨sG, v4, v5, v6, v7, v8, v9, va, vb, vc, rfl⟩
      have s0G : Same H G := s1.trans (s1c.trans sG)
      refine ⟨_, rfl, a, bd, rfl, hb.same s0G, ok, fun p as G1 np hp pk t1 => ?_⟩
      have pk := L2.Paired.mapP pk fun _ _ q => q.same t1
      have al := pk.length
      have s01 := s0G.trans t1
      refine ⟨p, rfl, ⟨_, SqL.of hp⟩, for_list (K := K) (a := p) (xs := as.map V.ref) (fun i σ F => Same G1 F ∧ ∃ v4 v5 v6 v7 v8 v9 va vb vc, σ = [some (.ref a), some (.str (dBd bd).shown), some (.ref d), some (.ref f), v4, v5, v6, v7, v8, v9, va, vb, vc])
        ⟨fun _ _ z => z, _, _, _, _, _, _, _, _, _, rfl⟩ (fun i σ F _ z => SqL.of (z.1 _ _ hp)) ?_ ?_⟩
      · rintro i y σ F hi ⟨sF, v4, v5, v6, v7, v8, v9, va, vb, vc, rfl⟩
        obtain ⟨x, ex, rfl⟩ := item_ref hi
        obtain ⟨kp, ek, r, c1, c2⟩ := paired_at pk ex
        have mem : kp ∈ allK bd := List.mem_of_getElem? ek
        have kok := allK_ok ok kp mem
        have n8 := kok.n8.n8
        have fd := find_nd nd mem
        refine ⟨x, _, rfl, SqT.of (sF _ _ c1), rfl, _, _, rfl, _, _, rfl, _, _, rfl, _, _, rfl, rfl, ?_⟩
        -- first
        refine ⟨_, rfl, _, rfl, a, kp.name, bd, rfl, hb.same (s01.trans sF), ok, by omega, fun kq eq F1 f1 => ?_, fun eq => absurd (fd.symm.trans eq) (by simp)⟩
        obtain rfl : kp = kq := Option.some.inj (fd.symm.trans eq)
        have hrow := f1 _ _ (sF _ _ c2)
        refine ⟨_, rfl, (show 0 ≤ sizeLine by decide), fun t nt => ?_⟩
        have ft : Same F1 (upd F1 t (.lst [])) := same_new nt
        have dr : Dp K (upd F1 t (.lst [])) (.ref r) (dStrs kp.row) := .lst (SqL.of (ft _ _ hrow)) (dp_strs kp.row)
        have dn : Dp K (upd F1 t (.lst [])) (.ref t) (.list []) := .lst (SqL.of upd_same) .nil
        have sn : SeqAt.shaped (.list []) = true := shaped_strs w8_nil
        refine ⟨dStrs kp.row, .list [], dr, dn, shaped_strs kok.w8, sn, _, rfl, ?_⟩
        cases er : kp.row with
        | nil =>
          rw [er] at hrow
          have e0 : PyData.eqv (dStrs []) (.list []) = true := by
            unfold dStrs
            rw [List.map_nil, PyData.eqv, PyData.eqvAll]
          rw [e0]
          refine iteT ?_
          have ev : elderV kp = .non := by
            unfold elderV
            rw [er]
          rw [ev]
          refine ⟨_, rfl, rfl, _, rfl, iteNS rfl ?_⟩
          refine ⟨_, rfl, _, rfl, a, kp.name, bd, rfl, hb.same (s01.trans (sF.trans (f1.trans ft))), ok, by omega, fun kq eq F3 f3 => ?_, fun eq => absurd (fd.symm.trans eq) (by simp)⟩
          obtain rfl : kp = kq := Option.some.inj (fd.symm.trans eq)
          rw [ev]
          refine ⟨_, rfl, rfl, _, rfl, iteNS rfl ?_⟩
          exact ⟨sF.trans (f1.trans (ft.trans f3)), _, _, _, _, _, _, _, _, _, rfl⟩
        | cons z zs =>
          rw [er] at hrow
          have e0 : PyData.eqv (dStrs (z :: zs)) (.list []) = false := by
            unfold dStrs
            rw [List.map_cons, PyData.eqv, PyData.eqvAll]
          rw [e0]
          refine iteF ?_
          have ev : elderV kp = .str z := by
            unfold elderV
            rw [er]
          rw [ev]
          refine ⟨_, rfl, _, rfl, r, _, _, _, rfl, rfl, SqL.of (ft _ _ hrow), atI_nat (j := 0) (v := V.str z) rfl, .str z, .str z, rfl, Tw.text 2 z, fun F2 f2 => ?_⟩
          refine ⟨_, rfl, iteF ?_⟩
          refine ⟨_, rfl, _, rfl, a, kp.name, bd, rfl, hb.same (s01.trans (sF.trans (f1.trans (ft.trans f2)))), ok, by omega, fun kq eq F3 f3 => ?_, fun eq => absurd (fd.symm.trans eq) (by simp)⟩
          obtain rfl : kp = kq := Option.some.inj (fd.symm.trans eq)
          rw [ev]
          refine ⟨_, rfl, rfl, _, rfl, iteNS rfl ?_⟩
          exact ⟨sF.trans (f1.trans (ft.trans (f2.trans f3))), _, _, _, _, _, _, _, _, _, rfl⟩
      · rintro σ F ⟨sF, v4, v5, v6, v7, v8, v9, va, vb, vc, rfl⟩
        refine ⟨_, rfl, a, dBd bd, rfl, dp_bd (hb.same (s01.trans sF)), sh.s, sh.n, Nat.le_trans sh.p (by decide), bd_shown ok, _, rfl, rfl, ?_⟩
        rw [decide_eq_true rfl]
        exact k F (s01.trans sF)
end
end My
namespace My
open PySem PySem.Spec PyProof.Rows L2
def spLaw (K : PySem.W.Frag) : Sp := fun vs H Q _ => ∃ (a : Addr) (ns : List Int), vs = [.ref a] ∧ SqL K H a (ns.map V.int) ∧ ns.length ≤ 63 ∧ ∀ H', Q (.bl true) H'
theorem nw_less (H H' : Hp) : Same (Nw H H') H' := fun c o h => (nw_some h).2
section
variable {P : Program} {w : World} {K : PySem.W.Frag} {mg : Str → Option Value} {base : Heap} {A : Ad}
theorem ok_law {f : Addr} {fd : FuncData} (F : Fun K "law" "law" s_law f fd) (T : Txt K mg A) : FnG P w K mg base CX0 9 f fd P_law (spLaw K) := by
  refine okG F sc_law (fun vs H Q E h => ?_) (fun cdv A' outer s H vs Q E gd hr h => ?_)
  · obtain ⟨a, ns, rfl, _⟩ := h
    rfl
  · obtain ⟨a, ns, rfl, hS, n63, k⟩ := h
    have gd : (A'.deeper (envOfC "law" (defScope s_law) s.heap.objs.size f cdv)).guards = some [] := gd
    refine ⟨_, (pss_cons (ps_set (i := 1) sc_law.nd rfl (Or.inl rfl) (pe_call (ok_bag T) (hr.mono (by decide)) rfl T.g_bag T.F_bag.kp T.b_bag .nil pass0 (pa_cons (pv 0) pa_nil)))
    (pss_cons (ps_for PassesOwn.never rfl (pi_range1 (by rfl) T.n_range (pa_cons pe_int pa_nil)) (pg_name (i := 2) sc_law.nd rfl (Or.inl rfl))
      (pss_one (ps_if (pt_not (pt_val (pe_callG (ok_right T) gd (hr.mono (by decide)) rfl T.g_right T.F_right.kp T.b_right pass0 (pa_cons (pe_call (ok_board T) (hr.mono (by decide)) rfl T.g_board T.F_board.kp T.b_board .nil pass0 (pa_cons (pv 1) pa_nil)) pa_nil))))
        (pss_one (ps_ret pe_bl))
        pss_nil)))
    (pss_one (ps_ret (pe_callG (ok_right T) gd (hr.mono (by decide)) rfl T.g_right T.F_right.kp T.b_right pass0 (pa_cons (pe_lst pa_nil) pa_nil)))))), ?_⟩
    refine ⟨_, rfl, a, ns, rfl, hS, n63, fun b l H1 nb nl B1 s1 => ?_⟩
    refine ⟨6, rfl, by decide, by decide, for_range (lo := 0) (n := 6) (fun i σ H' => Bag H' b l ∧ ∃ v2, σ = [some (.ref a), some (.ref b), v2]) ⟨B1, none, rfl⟩ ?_ ?_⟩
    · rintro i σ H2 hi ⟨B2, v2, rfl⟩
      refine ⟨_, rfl, b, l, rfl, B2, fun ad bd H3 ok hb B3 x3 => ?_⟩
      refine ⟨ad, bd, rfl, hb.same (nw_less _ _), ok, fun H4 s4 => ⟨_, rfl, iteF ?_⟩⟩
      exact ⟨B3.same s4, _, rfl⟩
    · rintro σ H2 ⟨B2, v2, rfl⟩
      have bd0 : BdN [] := ⟨⟨by decide, by intro t h; cases h⟩, by simp⟩
      refine ⟨(show 0 ≤ sizeLine by decide), fun p np => ?_⟩
      refine ⟨p, [], rfl, ⟨[], upd_same, .nil⟩, bd0, fun H3 s3 => ?_⟩
      exact k H3
end
end My
namespace My
open PySem PySem.Spec PyProof.Rows L2
theorem all_mk {P : Program} {w : World} {K : PySem.W.Frag} {h : Heap} {mg : Str → Option Value} {fa f0 f1 f2 f3 f4 f5 f6 f7 f8 f9 f10 f11 f12 f13 f14 f15 c_NoKeeper : Addr} (X : K.In h) (G : h.Ns mainGlobals mg) (hfa : mg "law" = some (.ref fa))
    {od0 an0 : Option Addr} {sl0 : Array (Option Value)} {oc0 kV0 dc0 pm0 cd0 ct0 : Value}
    {od1 an1 : Option Addr} {sl1 : Array (Option Value)} {oc1 kV1 dc1 pm1 cd1 ct1 : Value}
    {od2 an2 : Option Addr} {sl2 : Array (Option Value)} {oc2 kV2 dc2 pm2 cd2 ct2 : Value}
    {od3 an3 : Option Addr} {sl3 : Array (Option Value)} {oc3 kV3 dc3 pm3 cd3 ct3 : Value}
    {od4 an4 : Option Addr} {sl4 : Array (Option Value)} {oc4 kV4 dc4 pm4 cd4 ct4 : Value}
    {od5 an5 : Option Addr} {sl5 : Array (Option Value)} {oc5 kV5 dc5 pm5 cd5 ct5 : Value}
    {od6 an6 : Option Addr} {sl6 : Array (Option Value)} {oc6 kV6 dc6 pm6 cd6 ct6 : Value}
    {od7 an7 : Option Addr} {sl7 : Array (Option Value)} {oc7 kV7 dc7 pm7 cd7 ct7 : Value}
    {od8 an8 : Option Addr} {sl8 : Array (Option Value)} {oc8 kV8 dc8 pm8 cd8 ct8 : Value}
    {od9 an9 : Option Addr} {sl9 : Array (Option Value)} {oc9 kV9 dc9 pm9 cd9 ct9 : Value}
    {od10 an10 : Option Addr} {sl10 : Array (Option Value)} {oc10 kV10 dc10 pm10 cd10 ct10 : Value}
    {od11 an11 : Option Addr} {sl11 : Array (Option Value)} {oc11 kV11 dc11 pm11 cd11 ct11 : Value}
    {od12 an12 : Option Addr} {sl12 : Array (Option Value)} {oc12 kV12 dc12 pm12 cd12 ct12 : Value}
    {od13 an13 : Option Addr} {sl13 : Array (Option Value)} {oc13 kV13 dc13 pm13 cd13 ct13 : Value}
    {od14 an14 : Option Addr} {sl14 : Array (Option Value)} {oc14 kV14 dc14 pm14 cd14 ct14 : Value}
    {od15 an15 : Option Addr} {sl15 : Array (Option Value)} {oc15 kV15 dc15 pm15 cd15 ct15 : Value}
    (a0 : PySem.W.nsIn K mainGlobals "keepers_of" = some (some (.ref f0)))
    (l0 : K.lookup f0 = some ⟨oc0, od0, .func (PySem.W.fnOf "keepers_of" "keepers_of" (defArgs s_keepers_of) (defBody s_keepers_of) (defScope s_keepers_of) .none kV0 dc0 pm0 an0 cd0 ct0), sl0⟩)
    (c0 : PySem.W.codeIn K cd0 "keepers_of" = true)
    (k0 : PySem.W.keepIn K (.ref f0) = true)
    (a1 : PySem.W.nsIn K mainGlobals "things" = some (some (.ref f1)))
    (l1 : K.lookup f1 = some ⟨oc1, od1, .func (PySem.W.fnOf "things" "things" (defArgs s_things) (defBody s_things) (defScope s_things) .none kV1 dc1 pm1 an1 cd1 ct1), sl1⟩)
    (c1 : PySem.W.codeIn K cd1 "things" = true)
    (k1 : PySem.W.keepIn K (.ref f1) = true)
    (a2 : PySem.W.nsIn K mainGlobals "names" = some (some (.ref f2)))
    (l2 : K.lookup f2 = some ⟨oc2, od2, .func (PySem.W.fnOf "names" "names" (defArgs s_names) (defBody s_names) (defScope s_names) .none kV2 dc2 pm2 an2 cd2 ct2), sl2⟩)
    (c2 : PySem.W.codeIn K cd2 "names" = true)
    (k2 : PySem.W.keepIn K (.ref f2) = true)
    (a3 : PySem.W.nsIn K mainGlobals "who" = some (some (.ref f3)))
    (l3 : K.lookup f3 = some ⟨oc3, od3, .func (PySem.W.fnOf "who" "who" (defArgs s_who) (defBody s_who) (defScope s_who) .none kV3 dc3 pm3 an3 cd3 ct3), sl3⟩)
    (c3 : PySem.W.codeIn K cd3 "who" = true)
    (k3 : PySem.W.keepIn K (.ref f3) = true)
    (a4 : PySem.W.nsIn K mainGlobals "keeper_called" = some (some (.ref f4)))
    (l4 : K.lookup f4 = some ⟨oc4, od4, .func (PySem.W.fnOf "keeper_called" "keeper_called" (defArgs s_keeper_called) (defBody s_keeper_called) (defScope s_keeper_called) .none kV4 dc4 pm4 an4 cd4 ct4), sl4⟩)
    (c4 : PySem.W.codeIn K cd4 "keeper_called" = true)
    (k4 : PySem.W.keepIn K (.ref f4) = true)
    (a5 : PySem.W.nsIn K mainGlobals "eldest" = some (some (.ref f5)))
    (l5 : K.lookup f5 = some ⟨oc5, od5, .func (PySem.W.fnOf "eldest" "eldest" (defArgs s_eldest) (defBody s_eldest) (defScope s_eldest) .none kV5 dc5 pm5 an5 cd5 ct5), sl5⟩)
    (c5 : PySem.W.codeIn K cd5 "eldest" = true)
    (k5 : PySem.W.keepIn K (.ref f5) = true)
    (a6 : PySem.W.nsIn K mainGlobals "_law_bag" = some (some (.ref f6)))
    (l6 : K.lookup f6 = some ⟨oc6, od6, .func (PySem.W.fnOf "_law_bag" "_law_bag" (defArgs s_bag) (defBody s_bag) (defScope s_bag) .none kV6 dc6 pm6 an6 cd6 ct6), sl6⟩)
    (c6 : PySem.W.codeIn K cd6 "_law_bag" = true)
    (k6 : PySem.W.keepIn K (.ref f6) = true)
    (a7 : PySem.W.nsIn K mainGlobals "_law_draw" = some (some (.ref f7)))
    (l7 : K.lookup f7 = some ⟨oc7, od7, .func (PySem.W.fnOf "_law_draw" "_law_draw" (defArgs s_draw) (defBody s_draw) (defScope s_draw) .none kV7 dc7 pm7 an7 cd7 ct7), sl7⟩)
    (c7 : PySem.W.codeIn K cd7 "_law_draw" = true)
    (k7 : PySem.W.keepIn K (.ref f7) = true)
    (a8 : PySem.W.nsIn K mainGlobals "_law_alike" = some (some (.ref f8)))
    (l8 : K.lookup f8 = some ⟨oc8, od8, .func (PySem.W.fnOf "_law_alike" "_law_alike" (defArgs s_alike) (defBody s_alike) (defScope s_alike) .none kV8 dc8 pm8 an8 cd8 ct8), sl8⟩)
    (c8 : PySem.W.codeIn K cd8 "_law_alike" = true)
    (k8 : PySem.W.keepIn K (.ref f8) = true)
    (a9 : PySem.W.nsIn K mainGlobals "_law_pool" = some (some (.ref f9)))
    (l9 : K.lookup f9 = some ⟨oc9, od9, .func (PySem.W.fnOf "_law_pool" "_law_pool" (defArgs s_pool) (defBody s_pool) (defScope s_pool) .none kV9 dc9 pm9 an9 cd9 ct9), sl9⟩)
    (c9 : PySem.W.codeIn K cd9 "_law_pool" = true)
    (k9 : PySem.W.keepIn K (.ref f9) = true)
    (a10 : PySem.W.nsIn K mainGlobals "_law_keeper" = some (some (.ref f10)))
    (l10 : K.lookup f10 = some ⟨oc10, od10, .func (PySem.W.fnOf "_law_keeper" "_law_keeper" (defArgs s_keeper) (defBody s_keeper) (defScope s_keeper) .none kV10 dc10 pm10 an10 cd10 ct10), sl10⟩)
    (c10 : PySem.W.codeIn K cd10 "_law_keeper" = true)
    (k10 : PySem.W.keepIn K (.ref f10) = true)
    (a11 : PySem.W.nsIn K mainGlobals "_law_board" = some (some (.ref f11)))
    (l11 : K.lookup f11 = some ⟨oc11, od11, .func (PySem.W.fnOf "_law_board" "_law_board" (defArgs s_board) (defBody s_board) (defScope s_board) .none kV11 dc11 pm11 an11 cd11 ct11), sl11⟩)
    (c11 : PySem.W.codeIn K cd11 "_law_board" = true)
    (k11 : PySem.W.keepIn K (.ref f11) = true)
    (a12 : PySem.W.nsIn K mainGlobals "_law_all" = some (some (.ref f12)))
    (l12 : K.lookup f12 = some ⟨oc12, od12, .func (PySem.W.fnOf "_law_all" "_law_all" (defArgs s_all) (defBody s_all) (defScope s_all) .none kV12 dc12 pm12 an12 cd12 ct12), sl12⟩)
    (c12 : PySem.W.codeIn K cd12 "_law_all" = true)
    (k12 : PySem.W.keepIn K (.ref f12) = true)
    (a13 : PySem.W.nsIn K mainGlobals "_law_walked" = some (some (.ref f13)))
    (l13 : K.lookup f13 = some ⟨oc13, od13, .func (PySem.W.fnOf "_law_walked" "_law_walked" (defArgs s_walked) (defBody s_walked) (defScope s_walked) .none kV13 dc13 pm13 an13 cd13 ct13), sl13⟩)
    (c13 : PySem.W.codeIn K cd13 "_law_walked" = true)
    (k13 : PySem.W.keepIn K (.ref f13) = true)
    (a14 : PySem.W.nsIn K mainGlobals "_law_right" = some (some (.ref f14)))
    (l14 : K.lookup f14 = some ⟨oc14, od14, .func (PySem.W.fnOf "_law_right" "_law_right" (defArgs s_right) (defBody s_right) (defScope s_right) .none kV14 dc14 pm14 an14 cd14 ct14), sl14⟩)
    (c14 : PySem.W.codeIn K cd14 "_law_right" = true)
    (k14 : PySem.W.keepIn K (.ref f14) = true)
    (a15 : PySem.W.nsIn K mainGlobals "law" = some (some (.ref f15)))
    (l15 : K.lookup f15 = some ⟨oc15, od15, .func (PySem.W.fnOf "law" "law" (defArgs s_law) (defBody s_law) (defScope s_law) .none kV15 dc15 pm15 an15 cd15 ct15), sl15⟩)
    (c15 : PySem.W.codeIn K cd15 "law" = true)
    (k15 : PySem.W.keepIn K (.ref f15) = true)
    (gc_NoKeeper : PySem.W.nsIn K mainGlobals "NoKeeper" = some (some (.ref c_NoKeeper)))
    (n_len : PySem.W.nsIn K mainGlobals "len" = some none)
    (n_abs : PySem.W.nsIn K mainGlobals "abs" = some none)
    (n_int : PySem.W.nsIn K mainGlobals "int" = some none)
    (n_list : PySem.W.nsIn K mainGlobals "list" = some none)
    (n_range : PySem.W.nsIn K mainGlobals "range" = some none)
    (n_repr : PySem.W.nsIn K mainGlobals "repr" = some none)
    (n_isinstance : PySem.W.nsIn K mainGlobals "isinstance" = some none)
    (n_sorted : PySem.W.nsIn K mainGlobals "sorted" = some none)
    (n_set : PySem.W.nsIn K mainGlobals "set" = some none)
    (n_all : PySem.W.nsIn K mainGlobals "all" = some none)
    (n_tuple : PySem.W.nsIn K mainGlobals "tuple" = some none)
    (n_bool : PySem.W.nsIn K mainGlobals "bool" = some none)
    (n_str : PySem.W.nsIn K mainGlobals "str" = some none)
    (x_NoKeeper : PySem.W.excIn K c_NoKeeper [.type "LookupError", .type "Exception", .type "BaseException", .type "object"] "LookupError.__new__" = true)
    (k_NoKeeper : PySem.W.keepIn K (.ref c_NoKeeper) = true)
    (bx_NoKeeper : PySem.W.subIn K (.ref c_NoKeeper) (.type "BaseException") = some true)
    (tx_NoKeeper : PySem.W.typeIn K (.ref c_NoKeeper) = some (.type "type")) :
    ∃ fd : FuncData, (∀ (s : Shared) (v : Value), BindsTo s fd ⟨[v], []⟩ [("script", v)]) ∧ ∀ base : Heap, K.In base → base.Ns mainGlobals mg → FnG P w K mg base CX0 9 fa fd ["script"] (spLaw K) := by
  have e := hfa.symm.trans (PySem.W.mg_of X G a15)
  cases e
  have F0 := fun_mk (st := s_keepers_of) l0 c0 k0
  have F1 := fun_mk (st := s_things) l1 c1 k1
  have F2 := fun_mk (st := s_names) l2 c2 k2
  have F3 := fun_mk (st := s_who) l3 c3 k3
  have F4 := fun_mk (st := s_keeper_called) l4 c4 k4
  have F5 := fun_mk (st := s_eldest) l5 c5 k5
  have F6 := fun_mk (st := s_bag) l6 c6 k6
  have F7 := fun_mk (st := s_draw) l7 c7 k7
  have F8 := fun_mk (st := s_alike) l8 c8 k8
  have F9 := fun_mk (st := s_pool) l9 c9 k9
  have F10 := fun_mk (st := s_keeper) l10 c10 k10
  have F11 := fun_mk (st := s_board) l11 c11 k11
  have F12 := fun_mk (st := s_all) l12 c12 k12
  have F13 := fun_mk (st := s_walked) l13 c13 k13
  have F14 := fun_mk (st := s_right) l14 c14 k14
  have F15 := fun_mk (st := s_law) l15 c15 k15
  let A : Ad := { f_keepers_of := f0, d_keepers_of := PySem.W.fnOf "keepers_of" "keepers_of" (defArgs s_keepers_of) (defBody s_keepers_of) (defScope s_keepers_of) .none kV0 dc0 pm0 an0 cd0 ct0, f_things := f1, d_things := PySem.W.fnOf "things" "things" (defArgs s_things) (defBody s_things) (defScope s_things) .none kV1 dc1 pm1 an1 cd1 ct1, f_names := f2, d_names := PySem.W.fnOf "names" "names" (defArgs s_names) (defBody s_names) (defScope s_names) .none kV2 dc2 pm2 an2 cd2 ct2, f_who := f3, d_who := PySem.W.fnOf "who" "who" (defArgs s_who) (defBody s_who) (defScope s_who) .none kV3 dc3 pm3 an3 cd3 ct3, f_keeper_called := f4, d_keeper_called := PySem.W.fnOf "keeper_called" "keeper_called" (defArgs s_keeper_called) (defBody s_keeper_called) (defScope s_keeper_called) .none kV4 dc4 pm4 an4 cd4 ct4, f_eldest := f5, d_eldest := PySem.W.fnOf "eldest" "eldest" (defArgs s_eldest) (defBody s_eldest) (defScope s_eldest) .none kV5 dc5 pm5 an5 cd5 ct5, f_bag := f6, d_bag := PySem.W.fnOf "_law_bag" "_law_bag" (defArgs s_bag) (defBody s_bag) (defScope s_bag) .none kV6 dc6 pm6 an6 cd6 ct6, f_draw := f7, d_draw := PySem.W.fnOf "_law_draw" "_law_draw" (defArgs s_draw) (defBody s_draw) (defScope s_draw) .none kV7 dc7 pm7 an7 cd7 ct7, f_alike := f8, d_alike := PySem.W.fnOf "_law_alike" "_law_alike" (defArgs s_alike) (defBody s_alike) (defScope s_alike) .none kV8 dc8 pm8 an8 cd8 ct8, f_pool := f9, d_pool := PySem.W.fnOf "_law_pool" "_law_pool" (defArgs s_pool) (defBody s_pool) (defScope s_pool) .none kV9 dc9 pm9 an9 cd9 ct9, f_keeper := f10, d_keeper := PySem.W.fnOf "_law_keeper" "_law_keeper" (defArgs s_keeper) (defBody s_keeper) (defScope s_keeper) .none kV10 dc10 pm10 an10 cd10 ct10, f_board := f11, d_board := PySem.W.fnOf "_law_board" "_law_board" (defArgs s_board) (defBody s_board) (defScope s_board) .none kV11 dc11 pm11 an11 cd11 ct11, f_all := f12, d_all := PySem.W.fnOf "_law_all" "_law_all" (defArgs s_all) (defBody s_all) (defScope s_all) .none kV12 dc12 pm12 an12 cd12 ct12, f_walked := f13, d_walked := PySem.W.fnOf "_law_walked" "_law_walked" (defArgs s_walked) (defBody s_walked) (defScope s_walked) .none kV13 dc13 pm13 an13 cd13 ct13, f_right := f14, d_right := PySem.W.fnOf "_law_right" "_law_right" (defArgs s_right) (defBody s_right) (defScope s_right) .none kV14 dc14 pm14 an14 cd14 ct14, c_NoKeeper := c_NoKeeper }
  have T : Txt K mg A :=
    { F_keepers_of := F0, g_keepers_of := PySem.W.mg_of X G a0, b_keepers_of := F0.binds (ps := P_keepers_of) fun _ _ _ _ _ _ us hl => match us, hl with | [_], _ => rfl, F_things := F1, g_things := PySem.W.mg_of X G a1, b_things := F1.binds (ps := P_things) fun _ _ _ _ _ _ us hl => match us, hl with | [_], _ => rfl, F_names := F2, g_names := PySem.W.mg_of X G a2, b_names := F2.binds (ps := P_names) fun _ _ _ _ _ _ us hl => match us, hl with | [_], _ => rfl, F_who := F3, g_who := PySem.W.mg_of X G a3, b_who := F3.binds (ps := P_who) fun _ _ _ _ _ _ us hl => match us, hl with | [_, _], _ => rfl, F_keeper_called := F4, g_keeper_called := PySem.W.mg_of X G a4, b_keeper_called := F4.binds (ps := P_keeper_called) fun _ _ _ _ _ _ us hl => match us, hl with | [_, _], _ => rfl, F_eldest := F5, g_eldest := PySem.W.mg_of X G a5, b_eldest := F5.binds (ps := P_eldest) fun _ _ _ _ _ _ us hl => match us, hl with | [_, _], _ => rfl, F_bag := F6, g_bag := PySem.W.mg_of X G a6, b_bag := F6.binds (ps := P_bag) fun _ _ _ _ _ _ us hl => match us, hl with | [_], _ => rfl, F_draw := F7, g_draw := PySem.W.mg_of X G a7, b_draw := F7.binds (ps := P_draw) fun _ _ _ _ _ _ us hl => match us, hl with | [_, _], _ => rfl, F_alike := F8, g_alike := PySem.W.mg_of X G a8, b_alike := F8.binds (ps := P_alike) fun _ _ _ _ _ _ us hl => match us, hl with | [_, _], _ => rfl, F_pool := F9, g_pool := PySem.W.mg_of X G a9, b_pool := F9.binds (ps := P_pool) fun _ _ _ _ _ _ us hl => match us, hl with | [_, _], _ => rfl, F_keeper := F10, g_keeper := PySem.W.mg_of X G a10, b_keeper := F10.binds (ps := P_keeper) fun _ _ _ _ _ _ us hl => match us, hl with | [_, _, _], _ => rfl, F_board := F11, g_board := PySem.W.mg_of X G a11, b_board := F11.binds (ps := P_board) fun _ _ _ _ _ _ us hl => match us, hl with | [_], _ => rfl, F_all := F12, g_all := PySem.W.mg_of X G a12, b_all := F12.binds (ps := P_all) fun _ _ _ _ _ _ us hl => match us, hl with | [_], _ => rfl, F_walked := F13, g_walked := PySem.W.mg_of X G a13, b_walked := F13.binds (ps := P_walked) fun _ _ _ _ _ _ us hl => match us, hl with | [_], _ => rfl, F_right := F14, g_right := PySem.W.mg_of X G a14, b_right := F14.binds (ps := P_right) fun _ _ _ _ _ _ us hl => match us, hl with | [_], _ => rfl, n_len := PySem.W.mg_none_of X G n_len, n_abs := PySem.W.mg_none_of X G n_abs, n_int := PySem.W.mg_none_of X G n_int, n_list := PySem.W.mg_none_of X G n_list, n_range := PySem.W.mg_none_of X G n_range, n_repr := PySem.W.mg_none_of X G n_repr, n_isinstance := PySem.W.mg_none_of X G n_isinstance, n_sorted := PySem.W.mg_none_of X G n_sorted, n_set := PySem.W.mg_none_of X G n_set, n_all := PySem.W.mg_none_of X G n_all, n_tuple := PySem.W.mg_none_of X G n_tuple, n_bool := PySem.W.mg_none_of X G n_bool, n_str := PySem.W.mg_none_of X G n_str, g_NoKeeper := PySem.W.mg_of X G gc_NoKeeper, x_NoKeeper := x_NoKeeper, k_NoKeeper := k_NoKeeper, bx_NoKeeper := bx_NoKeeper, tx_NoKeeper := tx_NoKeeper }
  exact ⟨PySem.W.fnOf "law" "law" (defArgs s_law) (defBody s_law) (defScope s_law) .none kV15 dc15 pm15 an15 cd15 ct15, fun s v => .of_eq rfl, fun base _ _ => ok_law F15 T⟩
theorem walk {l : PySem.W.OpenLaw} {q : Program} {loose : List Str} {XP : (Str → Option Value) → Heap → Prop} {YP : World → Heap → Prop} {d : DefRec} {K : Params → PySem.W.Frag} (hn : l.most = some 63) (hdf : d.params.defaults = [])
    (hY : ∀ (w : World) (h : Heap), YP w h → (K w.params).In h)
    (F : ∀ (w : World) (mg : Str → Option Value) (fa : Addr) (h : Heap), (K w.params).In h → h.Ns mainGlobals mg → mg d.name = some (.ref fa) →
      ∃ fd : FuncData, (∀ (s : Shared) (v : Value), BindsTo s fd ⟨[v], []⟩ [("script", v)]) ∧ ∀ base : Heap, (K w.params).In base → base.Ns mainGlobals mg → FnG l.prog w (K w.params) mg base CX0 9 fa fd ["script"] (spLaw (K w.params))) :
    PySem.W.WalkO q loose XP YP l.row.toRowW d [] (fun f vs => PySem.call f vs) :=
  walk_ofG (n := 63) (k := 9) (x := "script") (CX := fun _ => CX0) (sp := fun w => spLaw (K w.params)) hn (by decide) hdf ⟨rfl, by decide, by decide⟩ hY F
    (fun _ _ a ns hl _ hS => ⟨a, ns, rfl, hS, hl, fun _ => rfl⟩) fun _ _ _ _ _ z => z
end My
open PySem PySem.W PyProof.Rows
set_option maxRecDepth 100000 in
set_option maxHeartbeats 0 in
theorem PySem.Challenge.cw_dimkeepers_k03_what_is_remembered_holds : PySem.Challenge.rw_dimkeepers_k03_what_is_remembered.Holds := by
  w_on; o_law; k_head; (case hw => w_witness2)
  k_fill
  refine My.walk (l := PySem.Challenge.rw_dimkeepers_k03_what_is_remembered) rfl rfl (fun w h Y => PySem.W.kIn_of Y) ?F
  case F =>
    intro w mg fa h KX G hmg
    refine' My.all_mk KX G hmg ?a0 ?l0 ?c0 ?k0 ?a1 ?l1 ?c1 ?k1 ?a2 ?l2 ?c2 ?k2 ?a3 ?l3 ?c3 ?k3 ?a4 ?l4 ?c4 ?k4 ?a5 ?l5 ?c5 ?k5 ?a6 ?l6 ?c6 ?k6 ?a7 ?l7 ?c7 ?k7 ?a8 ?l8 ?c8 ?k8 ?a9 ?l9 ?c9 ?k9 ?a10 ?l10 ?c10 ?k10 ?a11 ?l11 ?c11 ?k11 ?a12 ?l12 ?c12 ?k12 ?a13 ?l13 ?c13 ?k13 ?a14 ?l14 ?c14 ?k14 ?a15 ?l15 ?c15 ?k15 ?gc_NoKeeper ?n_len ?n_abs ?n_int ?n_list ?n_range ?n_repr ?n_isinstance ?n_sorted ?n_set ?n_all ?n_tuple ?n_bool ?n_str ?x_NoKeeper ?k_NoKeeper ?bx_NoKeeper ?tx_NoKeeper
    (case a0 => k_is)
    (case l0 => k_is)
    (case c0 => k_is)
    (case k0 => k_is)
    (case a1 => k_is)
    (case l1 => k_is)
    (case c1 => k_is)
    (case k1 => k_is)
    (case a2 => k_is)
    (case l2 => k_is)
    (case c2 => k_is)
    (case k2 => k_is)
    (case a3 => k_is)
    (case l3 => k_is)
    (case c3 => k_is)
    (case k3 => k_is)
    (case a4 => k_is)
    (case l4 => k_is)
    (case c4 => k_is)
    (case k4 => k_is)
    (case a5 => k_is)
    (case l5 => k_is)
    (case c5 => k_is)
    (case k5 => k_is)
    (case a6 => k_is)
    (case l6 => k_is)
    (case c6 => k_is)
    (case k6 => k_is)
    (case a7 => k_is)
    (case l7 => k_is)
    (case c7 => k_is)
    (case k7 => k_is)
    (case a8 => k_is)
    (case l8 => k_is)
    (case c8 => k_is)
    (case k8 => k_is)
    (case a9 => k_is)
    (case l9 => k_is)
    (case c9 => k_is)
    (case k9 => k_is)
    (case a10 => k_is)
    (case l10 => k_is)
    (case c10 => k_is)
    (case k10 => k_is)
    (case a11 => k_is)
    (case l11 => k_is)
    (case c11 => k_is)
    (case k11 => k_is)
    (case a12 => k_is)
    (case l12 => k_is)
    (case c12 => k_is)
    (case k12 => k_is)
    (case a13 => k_is)
    (case l13 => k_is)
    (case c13 => k_is)
    (case k13 => k_is)
    (case a14 => k_is)
    (case l14 => k_is)
    (case c14 => k_is)
    (case k14 => k_is)
    (case a15 => k_is)
    (case l15 => k_is)
    (case c15 => k_is)
    (case k15 => k_is)
    (case gc_NoKeeper => k_is)
    (case n_len => k_is)
    (case n_abs => k_is)
    (case n_int => k_is)
    (case n_list => k_is)
    (case n_range => k_is)
    (case n_repr => k_is)
    (case n_isinstance => k_is)
    (case n_sorted => k_is)
    (case n_set => k_is)
    (case n_all => k_is)
    (case n_tuple => k_is)
    (case n_bool => k_is)
    (case n_str => k_is)
    (case x_NoKeeper => k_exc)
    (case k_NoKeeper => k_is)
    (case bx_NoKeeper => k_is)
    (case tx_NoKeeper => k_is)
