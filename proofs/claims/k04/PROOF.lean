import PyProof.Rows.All
import Wide.All
import OpenK.AllK
import Wide.FinOn
import PyProof.ReprRoads
import HandS.ForMost
import HandS.ForExc
import HandS.Wide
import HandS.IsInst
import HandS.ExcIs
import HandS.ExcValue
import HandS.RaiseMore
import HandS.FStr
import PyProof.StrLaws
import PySem.Challenge.RW_dimkeepers_k04_no_such_keeper
set_option Elab.async false
set_option linter.all false
set_option maxRecDepth 100000
set_option maxHeartbeats 8000000
/-! rules of my own: powers of great ints; defs that are called where nothing is being shown (so that repr runs); repr of data -/
namespace My
open PySem PySem.Spec PyProof.Rows L2
/-! ### powers -/
section
variable {X : Cx}
def PowFit (i j : Int) : Prop := 0 ≤ j ∧ (Builtin.Int.intBits i : Int) * j ≤ 2 ^ 27
theorem op_powW : OpR X (binaryOp .Pow) (rI PowFit fun i j => .int (i ^ j.toNat)) :=
  opI fun _ _ _ _ _ _ _ fit q => pow_int fit.1 fit.2 q
end
/-! ### a def's promise where nothing is being shown -/
structure FnG (P : Program) (w : World) (K : PySem.W.Frag) (mg : Str → Option Value) (base : Heap)
    (CX : CXT) (k : Nat) (f : Addr) (fd : FuncData) (ps : List Str) (sp : Sp) : Prop where
  arity : ∀ vs H Q E, sp vs H Q E → vs.length = ps.length
  go : ∀ (A : Around) (outer : List Env) (s : Shared) (H : Hp) (args : Args) (us : List Value) (vs : List V)
    (Q : VK) (E : XK), A.guards = some [] → Room k A → Env0 P w K mg base A outer s H →
    BindsTo s fd args (ps.zip us) → Vals vs us → sp vs H Q E →
    codeAny (model P w) A (.call (.ref f) args) (CR CX outer P w H s Q E) s
section
variable {P : Program} {w : World} {K : PySem.W.Frag} {mg : Str → Option Value} {base : Heap}
theorem okG {CX : CXT} {x qual : Str} {st : Stmt} {f : Addr} {fd : FuncData} {N ps : List Str} {k : Nat} {sp : Sp}
    (F : Fun K x qual st f fd) (S : FnScope N ps (defScope st))
    (arity : ∀ vs H Q E, sp vs H Q E → vs.length = ps.length)
    (body : ∀ (cdv : Value) (A : Around) (outer : List Env) (s : Shared) (H : Hp) (vs : List V) (Q : VK) (E : XK),
      A.guards = some [] → Room k (A.deeper (envOfC qual (defScope st) s.heap.objs.size f cdv)) → sp vs H Q E →
      ∃ t, PSs (cxOf CX P w K mg base N qual (defScope st) f cdv A outer s H E).nox (defBody st) t ∧
        t { nx := fun _ H' => Q .non H', rt := Q } (start N vs) H) :
    FnG P w K mg base CX (k + 1) f fd ps sp := by
  obtain ⟨oc, od, kV, doc, pm, an, cdv, ct, osl, rfl, lk, hcd⟩ := F.ex
  refine ⟨arity, fun A outer s H args us vs Q E gd room e0 bnd rv want => ?_⟩
  have al := arity _ _ _ _ want
  have stay : ∀ b o, base.get? b = some o → s.heap.get? b = some o := fun b o e => (e0.bs b o e).1
  have inK : K.In s.heap := e0.mod.kin.keeps stay
  have nolim : s.heap.NoLimit := e0.mod.nolimit.keeps stay
  have kinds : ∀ y ∈ ps.zip us, (defScope st).names.lookup y.1 = some .local ∨
      ((defScope st).names.lookup y.1 = some .cell ∧
        ((cellsFrom (s.heap.objs.size + 1) (defScope st).names []).lookup y.1).isSome = true) := by
    rintro ⟨n, v⟩ hy
    rcases S.par n (List.of_mem_zip hy).1 with q | q
    · exact .inl q
    · exact .inr ⟨q, PySem.W.cellsFrom_some _ _ _ (.inl q)⟩
  refine codeAny_call_function room.depth (inK _ _ lk) rfl S.co S.gen rfl
    (PySem.W.codeRec_of inK hcd) (bnd _ _ _ _ ?_)
  refine wpAny_newFunctionEnv_cells S.kind kinds fun env he s1 x => ?_
  subst he
  refine ⟨nolim.keeps x.toInCall.keep, codeAny_func ?_⟩
  obtain ⟨t, ht0, hq⟩ := body cdv A outer s H vs Q E gd (room.deeper _) want
  have ht := ht0.nox
  have I := inv_start (E := E) (CX := CX) S room.hd e0 al rv x
  refine wpAny_mono (ht.run [] s1 (start N vs) H _ I hq) (fun fl s' hs => ?_) fun e s' hs => hs
  cases fl with
  | ret u =>
    obtain ⟨v, σ', H', J, rv', q⟩ := hs
    exact ⟨v, H', J.os, J.bare, J.base, J.hok, rv', q⟩
  | next =>
    obtain ⟨σ', H', J, q⟩ := hs
    exact ⟨V.non, H', J.os, J.bare, J.base, J.hok, rfl, q⟩
  | brk => exact hs.elim fun _ z => z.elim fun _ z => z.2.elim
  | cont => exact hs.elim fun _ z => z.elim fun _ z => z.2.elim
end
/-! ### its call from such a def -/
section
variable {X : Cx} {CX : CXT} {k : Nat} {f : Addr} {fd : FuncData} {ps : List Str} {sp : Sp} {E : XK} {x : Str}
  {p pos : Pos} {e : Expr} {es : List Expr} {t : TA}
theorem run_fnG {pins : List (Addr × Obj)} {σ : L2.St} {H : Hp} {s : Shared} {Q : VK} {us : List Value} {vs : List V}
    (F : FnG X.prog X.w X.K X.mg X.base CX k f fd ps sp) (gd : X.A.guards = some []) (room : Room k X.A)
    (bnd : Binds X.K fd ps []) (pass : Passes CX X E) (I : Inv X pins σ H s) (r : Vals vs us) (h : sp vs H Q E) :
    wpAny (model X.prog X.w) X.A (call (.ref f) us) (EP X pins σ Q) X.xe s := by
  have al : (us ++ []).length = ps.length := by
    rw [List.append_nil, ← r.length]
    exact F.arity _ _ _ _ h
  have b := bnd s us I.kIn al
  rw [List.append_nil] at b
  refine wpAny_call (codeAny_mono (F.go X.A X.stack s H ⟨us, []⟩ us vs Q E gd room I.env0 b r h) fun out s' hq => ?_)
  rcases out with e | fl
  · exact pass pins σ H s e s' I hq
  · cases fl with
    | ret u => exact I.after hq
    | next => exact hq.elim
    | brk => exact hq.elim
    | cont => exact hq.elim
theorem pe_callG (F : FnG X.prog X.w X.K X.mg X.base CX k f fd ps sp) (gd : X.A.guards = some [])
    (room : Room k X.A) (hg : Gl X x) (hm : X.mg x = some (.ref f)) (kp : PySem.W.keepIn X.K (.ref f) = true)
    (bnd : Binds X.K fd ps []) (pass : Passes CX X E) (ha : PA X (e :: es) t)
    (hdb : (x == ("__debug__" : Str)) = false := by decide)
    (he : starEach (e :: es) X.env = (false, eval e X.env) :: starEach es X.env := by rfl)
    (hpl : (backTo pos (starEach es X.env)).any (·.1) = false := by rfl) :
    PE X (.Call (.Name x p) (e :: es) [] pos) (fun σ H Q => t σ H fun vs H1 => sp vs H1 Q E) := by
  refine ⟨fun pins s σ H Q I h => ?_⟩
  refine wpAny_Call_Name_kw (ld_glob I hg hm ?_ hdb)
  refine PySem.W.callWith_K (h₀ := X.base) I.ok.mod.kin kp ?_ he hpl
  refine thn (ha.run pos pins s σ H _ I h) fun us s1 z => ?_
  obtain ⟨vs, H1, I1, r, q⟩ := z
  exact ⟨I1.kIn, run_fnG F gd room bnd pass I1 r q⟩
end
/-! ### repr of a list or a tuple of data -/
section
variable {X : Cx}
def rRepr (K : PySem.W.Frag) : List V → Hp → VK → Prop := fun xs H Q => ∃ (a : Addr) (d : PyData),
  xs = [.ref a] ∧ Dp K H (.ref a) d ∧ d.showable = true ∧ d.hasDict = false ∧ d.depth ≤ 60 ∧
  d.shown.length ≤ sizeLine ∧ Q (.str d.shown) H
theorem call_repr (gd : X.A.guards = some []) (hu : X.A.units + 64 < cLine) :
    CallR X (.builtin "repr") (rRepr X.K) := by
  intro pins s σ H xs us Q I r h
  obtain ⟨a, d, rfl, hd, hs, hn, hp, hz, q⟩ := h
  obtain ⟨u, rfl, ru⟩ := vals1 r
  cases (show u = Value.ref a from ru)
  obtain ⟨as, R⟩ := Dp.reads I d (.ref a) (.ref a) hd rfl
  refine repr_of_reads' (h₀ := s.heap) R hs (PyData.noDict_hsm hn) gd (by omega) (fun _ _ e => e) ?_ hz
  exact fun h' t tk kept => ⟨.str d.shown, H, I.kept kept, ⟨t, rfl⟩, q⟩
end
/-! ### the law's own call -/
theorem law_callG {P : Program} {w : World} {K : PySem.W.Frag} {mg mb : Str → Option Value} {CX : CXT} {k : Nat}
    {fa a : Addr} {fd : FuncData} {x : Str} {sp : Sp} {s₁ : Shared} {vs : List Value} {ns : List Int}
    (inK : K.In s₁.heap) (hns : s₁.heap.Ns mainGlobals mg) (hb : s₁.heap.Ns builtinsNs mb)
    (hbb : ∀ x : Str, x ≠ "__name__" → mb x = bootBuiltins x) (hlim : s₁.heap.NoLimit) (hgen : s₁.gens = #[])
    (ha : s₁.heap.get? a = some { cls := .type "list", data := .seq vs.toArray }) (hi : IntsAre vs ns)
    (hl : ns.length ≤ sizeLine) (room : Room k callerA)
    (F : ∀ base : Heap, K.In base → base.Ns mainGlobals mg → FnG P w K mg base CX k fa fd [x] sp)
    (bnd : ∀ (s : Shared) (u : Value), BindsTo s fd ⟨[u], []⟩ [(x, u)])
    (hsp : ∀ H : Hp, Only H → SqL K H a (ns.map V.int) → sp [.ref a] H (fun v _ => v = .bl true) fun _ _ _ => False)
    (hCX : ∀ H e s', CX [] H s₁ (fun _ _ _ => False) e s' → False) :
    codeAny (model P w) callerA (.call (.ref fa) ⟨[.ref a], []⟩)
      (fun r s' => r = .ok (.ret (.bool true)) ∧ OldK s₁.heap s'.heap ∧ s'.os = s₁.os ∧ AllBare s'.gens) s₁ := by
  have rv := vals_ints hi
  have key : ∀ H : Hp, Only H → SqL K H a (ns.map V.int) → HOk P w H s₁.heap → (∀ b, H b ≠ none → b = a) →
      (H a ≠ none → K.lookup a = none) → codeAny (model P w) callerA (.call (.ref fa) ⟨[.ref a], []⟩)
        (fun r s' => r = .ok (.ret (.bool true)) ∧ OldK s₁.heap s'.heap ∧ s'.os = s₁.os ∧ AllBare s'.gens) s₁ := by
    intro H only sq ok one notK
    have at_a : ∀ {b : Addr} {u : HO}, H b = some u → b = a := fun {b u} q => one b fun z => by
      rw [q] at z
      cases z
    have plain : ∀ {b : Addr} {m : Str → Option Value}, s₁.heap.Ns b m → (hidT s₁.heap H).Ns b m := by
      rintro b m ⟨o, es, ep, e, d, r⟩
      refine ⟨o, es, ep, hidT_get e ?_, d, r⟩
      cases q : H b with
      | none => rfl
      | some u =>
        cases at_a q
        cases ha.symm.trans e
        have bad : Data.seq vs.toArray _ = Data.dict es ep := d
        cases bad
    have kb : K.In (hidT s₁.heap H) := fun b o e => hidT_get (inK b o e) (by
      cases q : H b with
      | none => rfl
      | some u =>
        cases at_a q
        have z := notK (by rw [q]; simp)
        rw [e] at z
        cases z)
    have md : Mod K mg (hidT s₁.heap H) :=
      ⟨kb, plain hns, ⟨mb, plain hb, hbb⟩, hlim.elim fun mc z => ⟨mc, plain z.1, z.2⟩⟩
    have e0 : Env0 P w K mg (hidT s₁.heap H) callerA [] s₁ H :=
      ⟨rfl, md, fun b o e => of_hidT e, Nat.le_of_eq (hidT_size _ _), trivial, (by intro b z; cases z), ok, .of_eq hgen⟩
    have run := (F _ kb (plain hns)).go callerA [] s₁ H ⟨[.ref a], []⟩ [.ref a] [.ref a] _ _ rfl room e0
      (bnd s₁ (.ref a)) (.cons rfl .nil) (hsp H only sq)
    refine codeAny_mono run fun out s' h => ?_
    rcases out with e | fl
    · exact (hCX H e s' h).elim
    · cases fl with
      | next => exact h.elim
      | brk => exact h.elim
      | cont => exact h.elim
      | ret u =>
        obtain ⟨v, H', os, bare, un, ok', r', q⟩ := h
        cases (show v = .bl true from q)
        cases (show u = Value.bool true from r')
        refine ⟨rfl, OldK.of_keep fun b o e => ?_, os, bare⟩
        rcases only b with z | ⟨ob, xs, z⟩
        · exact un.keep b o e z (by intro y; cases y) (by intro y; cases y)
        · have z2 := un.frzs b ob _ z
          obtain ⟨e1, _⟩ := ok b _ z
          obtain ⟨e2, _⟩ := ok' b _ z2
          rw [e] at e1
          cases e1
          exact e2
  cases hk : K.lookup a with
  | some o =>
    have e := inK a o hk
    rw [ha] at e
    cases e
    refine key (fun _ => none) (fun _ => .inl rfl) ?_ ?_ ?_ ?_
    · exact .inr ⟨_, vs.toArray, _, hk, rfl, rfl, rfl, by rw [List.size_toArray, hi.length]; exact hl, by simpa using rv⟩
    · intro b u z
      have z' : (none : Option HO) = some u := z
      cases z'
    · exact fun b z => absurd rfl z
    · exact fun z => absurd rfl z
  | none =>
    let ob : Obj := { cls := .type "list", data := .seq vs.toArray }
    let H : Hp := fun b => if b = a then some (.frz ob (.lst (ns.map V.int))) else none
    have here : H a = some (.frz ob (.lst (ns.map V.int))) := if_pos rfl
    have away : ∀ b, b ≠ a → H b = none := fun b z => if_neg z
    refine key H (fun b => ?_) (.inl (.inr ⟨ob, here⟩)) (fun b u z => ?_) (fun b z => ?_) fun _ => hk
    · by_cases hb : b = a
      · subst hb
        exact .inr ⟨_, _, here⟩
      · exact .inl (away b hb)
    · by_cases hb : b = a
      · subst hb
        rw [here] at z
        cases z
        exact ⟨ha, by rw [List.length_map]; exact hl, vs, _, rv, ha⟩
      · rw [away b hb] at z
        cases z
    · by_cases hb : b = a
      · exact hb
      · exact absurd (away b hb) z
theorem walk_ofG {l : PySem.W.OpenLaw} {n k : Nat} {q : Program} {loose : List Str} {XP : (Str → Option Value) → Heap → Prop}
    {YP : World → Heap → Prop} {d : DefRec} {K : Params → PySem.W.Frag} {CX : World → CXT} {sp : World → Sp} {x : Str}
    (hn : l.most = some n) (hn2 : n ≤ sizeLine) (hdf : d.params.defaults = []) (room : Room k callerA)
    (hY : ∀ (w : World) (h : Heap), YP w h → (K w.params).In h)
    (F : ∀ (w : World) (mg : Str → Option Value) (fa : Addr) (h : Heap), (K w.params).In h → h.Ns mainGlobals mg →
      mg d.name = some (.ref fa) → ∃ fd : FuncData, (∀ (s : Shared) (u : Value), BindsTo s fd ⟨[u], []⟩ [(x, u)]) ∧
        ∀ base : Heap, (K w.params).In base → base.Ns mainGlobals mg → FnG l.prog w (K w.params) mg base (CX w) k fa fd [x] (sp w))
    (hsp : ∀ (w : World) (H : Hp) (a : Addr) (ns : List Int), ns.length ≤ n → Only H → SqL (K w.params) H a (ns.map V.int) →
      sp w [.ref a] H (fun v _ => v = .bl true) fun _ _ _ => False)
    (hCX : ∀ (w : World) (H : Hp) (s : Shared) (e : Value) (s' : Shared), CX w [] H s (fun _ _ _ => False) e s' → False) :
    PySem.W.WalkO q loose XP YP l.row.toRowW d [] (fun f vs => PySem.call f vs) := by
  refine Att.attach_call hn hdf fun w s₀ s₁ mg mb fa o pm cd doc a vs ns G Y _ _ _ hmg hobj hints hlen hgen => ?_
  have kx := hY w _ Y
  obtain ⟨fd, bnd, hF⟩ := F w mg fa _ kx G.T.g hmg
  exact law_callG kx G.T.g G.T.b G.T.builtins G.T.nolimit hgen hobj hints (Nat.le_trans hlen hn2) room hF bnd
    (fun H only sq => hsp w H a ns hlen only sq) fun H e s' => hCX w H s₁ e s'
end My
/-! try: .. except (A, B, C) as e: caught = e: the error is held by a name behind the clause, and isinstance is asked of it there -/
namespace My
open PySem PySem.Spec PyProof.Rows L2
/-- an error of the class cls, caught, as an object that is tracked -/
def Err (cls : Value) (a : Addr) : HO :=
  .ext fun h => ∃ (oe : Obj) (vs : Array Value), h.get? a = some oe ∧ Zc cls none oe ∧ oe.data = .fields vs
theorem err_ok {P : Program} {w : World} {H : Hp} {h : Heap} {a : Addr} {cls : Value} {oe : Obj} {vs : Array Value}
    (e : h.get? a = some oe) (z : Zc cls none oe) (d : oe.data = .fields vs) : ObjOk P w H h a (Err cls a) :=
  ⟨⟨oe, vs, e, z, d⟩, ⟨oe, e⟩, fun _ _ ⟨o, v, q, r⟩ k => ⟨o, v, k o q, r⟩⟩
section
variable {X : Cx} {pins : List (Addr × Obj)} {σ : L2.St} {H : Hp} {s : Shared}
/-- an object of ours that was not tracked is tracked from now on -/
theorem track {a : Addr} {oe : Obj} {vs : Array Value} {cls : Value} (I : Inv X pins σ H s)
    (ha : s.heap.get? a = some oe) (hz : Zc cls none oe) (hd : oe.data = .fields vs) (na : H a = none)
    (new : X.s_0.heap.get? a = none) (nL : a ≠ X.env.locals) (np : ∀ p ∈ X.pn ++ pins, p.1 ≠ a) :
    Inv X pins σ (upd H a (Err cls a)) s := by
  have apart : ∀ {b : Addr} {o : HO}, H b = some o → b ≠ a := fun q => ne_of_none q na
  refine ⟨I.ok, I.os, I.bare, ?_, I.loc, I.cell, ?_, ?_, ?_, ?_, I.len⟩
  · refine ⟨I.base.keep, I.base.slot, fun b o e n x => ?_, I.base.there, fun b xs q => ?_, fun b o u q => ?_, fun b ps q => ?_⟩
    · have nb : b ≠ a := fun z => by
        rw [z, new] at e
        cases e
      rw [upd_ne nb]
      exact I.base.free b o e n x
    · have t := I.base.tups b xs q
      rw [upd_ne (apart t)]
      exact t
    · have t := I.base.frzs b o u q
      rw [upd_ne (apart t)]
      exact t
    · obtain ⟨more, t⟩ := I.base.tbls b ps q
      exact ⟨more, by rw [upd_ne (apart t)]; exact t⟩
  · rw [upd_ne nL.symm]
    exact I.free
  · intro x c e
    have nc : c ≠ a := fun z => by
      obtain ⟨v, ob, e1, e2⟩ := I.cell x c e
      rw [z, ha] at e1
      cases e1
      rw [hd] at e2
      cases e2
    rw [upd_ne nc]
    exact I.freeC x c e
  · intro p hp
    obtain ⟨e, n, ne, nf, d⟩ := I.pin p hp
    exact ⟨e, by rw [upd_ne (np p hp)]; exact n, ne, nf, d⟩
  · intro b u e
    by_cases hb : b = a
    · subst hb
      rw [upd_same] at e
      cases e
      exact err_ok ha hz hd
    · rw [upd_ne hb] at e
      refine (I.hok b u e).stay (fun c v _ q => q) (fun c q => ?_) fun c xs q => ?_
      · rw [upd_ne (apart q)]
        exact q
      · rw [upd_ne (apart q)]
        exact q
end
/-- what the clause wishes: the error is of one of the classes, has no dict of its own; slot j holds it behind, slot i is empty -/
def wKeep (K : PySem.W.Frag) (c1 c2 c3 : Addr) (i j : Nat) (D : Ends) : WX := fun cls d σ H =>
  d = none ∧ PySem.W.exmAny K cls [.ref c1, .ref c2, .ref c3] = some true ∧
  ∀ a, H a = none → D.nx (((σ.set i (some (.ref a))).set j (some (.ref a))).set i none) (upd H a (Err cls a))
theorem fly_keep {B h h' : Heap} {l : List Env} {a : Addr} {Z : Obj → Prop} (k : ∀ b o, h.get? b = some o → h'.get? b = some o)
    (f : HandSPX.FlyingZ B l a Z h) : HandSPX.FlyingZ B l a Z h' := by
  obtain ⟨f1, f2, f3, oe, vs, T, oT, ts, e1, z, d, v, bT, ne, e2, d2, t⟩ := f
  exact ⟨fun b o e => k b o (f1 b o e), f2, Heap.FunFrames.of_keeps (fun b o e _ => ⟨o, k b o e, rfl⟩) f3,
    oe, vs, T, oT, ts, k _ _ e1, z, d, v, bT, ne, k _ _ e2, d2, t⟩
/-- x of the module holds c -/
structure Glb (X : Cx) (x : Str) (c : Addr) : Prop where
  g : Gl X x
  m : X.mg x = some (.ref c)
  d : (x == ("__debug__" : Str)) = false
section
variable {X : Cx} {x1 x2 x3 n y : Str} {c1 c2 c3 : Addr} {i j : Nat} {body : List Stmt} {p1 p2 p3 pt pa py pn' pos pos' : Pos} {tb : WX → TS} {kk : Nat}
theorem ps_try_keep (hs : X.stack = X.env :: X.outer) (hf : X.env.frame = some X.env.locals) (hex : X.ex = [])
    (hN : X.N.Nodup) (hi : X.N[i]? = some n) (hj : X.N[j]? = some y) (hln : X.env.kindOf n = some .local)
    (hly : X.env.kindOf y = some .local) (G1 : Glb X x1 c1) (G2 : Glb X x2 c2) (G3 : Glb X x3 c3)
    (dn : (n == ("__debug__" : Str)) = false) (dc : (n == ("__classdict__" : Str)) = false)
    (sw : swapsWith (.Name n pn') (some (.Name y py)) pa.line X.env = pure false)
    (hb : ∀ (W : WX) (pn : List (Addr × Obj)) (xe : Value → Shared → Prop), Takes (X.tr pn xe) W →
      PassesOwn (model X.prog X.w) X.A X.env xe → PSs (X.tr pn xe) body (tb W)) :
    PS X (.Try body [.ExceptHandler (some (.Tuple [.Name x1 p1, .Name x2 p2, .Name x3 p3] kk pt)) (some n)
      [.Assign [.Name y py] (.Name n pn') pa] pos'] [] [] pos) (fun D σ H => tb (wKeep X.K c1 c2 c3 i j D) D σ H) := by
  refine ⟨fun pins s σ H D I h => ?_⟩
  have ok := I.ok
  have fr0 : X.A.frames = some (X.env :: X.outer) := by rw [ok.frames, hs]
  have locn : Loc X.env.scope n := .inl hln
  let hds : List ExceptHandler := [.ExceptHandler (some (.Tuple [.Name x1 p1, .Name x2 p2, .Name x3 p3] kk pt)) (some n)
      [.Assign [.Name y py] (.Name n pn') pa] pos']
  let M := model X.prog X.w
  let caught : Value → Shared → Prop := fun e s1 => wpAny M X.A (noteFrame e X.env) (fun _ s2 =>
    wpAny M X.A (setFlight e none) (fun _ s3 => wpAny M X.A (handleBy e X.env hds) (SP X pins D) X.xe s3) X.xe s2) X.xe s1
  have tk : Takes (X.tr (X.pn ++ pins) caught) (wKeep X.K c1 c2 c3 i j D) := by
    intro u s' xx
    obtain ⟨a, B, sI, pins', σ', H', cls, d, rfl, J', nb, up, sky, na, os, ag, rfl, any, yes⟩ := xx
    have J : Inv X pins σ' H' sI := J'.ofTry ok
    have sky' : Sky B (X.env :: X.outer) a (Zc cls none) X.env.locals s'.heap := by rw [← hs]; exact sky
    show wpAny M X.A (noteFrame (.ref a) X.env) _ _ _
    refine Sky.land Zc.steady fr0 hf sky' fun h3 fl3 up3 => ?_
    have J3 : Inv X pins σ' H' { s' with heap := h3 } := J.landed nb fl3.1 (up.trans up3) os ag
    obtain ⟨oe3, vs3, he3, hz3, hd3⟩ := fl3.there
    have nfr : a ∉ frs (X.env :: X.outer) := fun hm => by
      obtain ⟨_, o', e', bad⟩ := fl3.2.2.1.mem hm
      rw [he3] at e'
      cases e'
      exact bad _ hd3
    have nL : a ≠ X.env.locals := fun z => nfr (List.mem_filterMap.mpr ⟨X.env, List.mem_cons_self, by rw [hf, z]⟩)
    have nF : a ∉ X.fs := fun hm => by
      obtain ⟨e, he, q⟩ := List.mem_filterMap.mp hm
      exact nfr (List.mem_filterMap.mpr ⟨e, List.mem_cons_of_mem _ he, q⟩)
    have newI : sI.heap.get? a = none := by
      cases q : sI.heap.get? a with
      | none => rfl
      | some o =>
        have z := nb a o q (by rw [hs]; exact nfr)
        rw [fl3.2.1] at z
        cases z
    have new0 : X.s_0.heap.get? a = none := by
      cases q : X.s_0.heap.get? a with
      | none => rfl
      | some o =>
        obtain ⟨o', e'⟩ := J.base.there a o q (by rw [hex]; intro z; cases z)
        rw [newI] at e'
        cases e'
    have apart : ∀ p ∈ X.pn ++ pins, p.1 ≠ a := fun p hp z => by
      have e := (J.pin p hp).1
      rw [z, newI] at e
      cases e
    have S3 := J3.suite he3 hd3 na nL nF
    refine wpAny_handleBy_cons (codeAny_handlers_test ?_) (by intro q; cases q)
    refine wpAny_Tuple ?_
    refine wpAny_items_cons (ld_glob S3 G1.g G1.m ?_ G1.d)
    refine wpAny_items_cons (ld_glob S3 G2.g G2.m ?_ G2.d)
    refine wpAny_items_cons (ld_glob S3 G3.g G3.m ?_ G3.d)
    refine wpAny_items_nil ⟨(show 3 ≤ sizeLine by decide), ?_⟩
    let h4 : Heap := h3.push { cls := .type "tuple", data := .seq [Value.ref c1, .ref c2, .ref c3].toArray }
    have kp : ∀ b o, h3.get? b = some o → h4.get? b = some o := fun _ _ e => Heap.get?_push_of_some _ e
    have fl4 : HandSPX.FlyingZ B (X.env :: X.outer) a (Zc cls none) h4 := fly_keep kp fl3
    have up4 : sI.heap.UpToSlots h4 := (up.trans up3).trans (Heap.UpToSlots.of_keeps kp)
    have J4 : Inv X pins σ' H' { s' with heap := h4 } := J.landed nb fl4.1 up4 os ag
    have LT : PySem.W.Looks M h4 (typeOf (.ref a)) cls := fun A Q E s k q =>
      wpAny_typeOf_ref (k _ _ (kp _ _ he3)) (by rw [hz3.1]; exact q)
    have LM := PySem.W.exm_tup3 (M := M) J4.kIn LT (Heap.get?_push_size h3 rfl) any
    refine LM.here ?_
    refine codeAny_handlers_suite_as ?_
    refine HandSPX.lands_againZ fl4 fun h5 fl5 up5 => ?_
    have J5 : Inv X pins σ' H' { s' with heap := h5 } := J.landed nb fl5.1 (up4.trans up5) os ag
    obtain ⟨oe5, vs5, he5, hz5, hd5⟩ := fl5.there
    have S5 := J5.suite he5 hd5 na nL nF
    have lenN : X.N.length = σ'.length := J.len.symm
    refine store_ok (X := X.suite a ((a, oe5) :: (X.pn ++ pins))) (v := .ref a) S5 hN hi locn rfl (fun s6 S6 => ?_) (.inr hln)
    have lti : i < σ'.length := by
      rw [← lenN]
      exact (List.getElem?_eq_some_iff.mp hi).1
    have got : (σ'.set i (some (V.ref a)))[i]? = some (some (V.ref a)) := by rw [List.getElem?_set_self lti]
    let D' : Ends := { nx := fun σ2 H2 => σ2 = (σ'.set i (some (.ref a))).set j (some (.ref a)) ∧ H2 = H', rt := fun _ _ => False, bk := fun _ _ => False, ct := fun _ _ => False }
    have suite : PSs (X.suite a ((a, oe5) :: (X.pn ++ pins))) [.Assign [.Name y py] (.Name n pn') pa] (tAsg (tVar i) (gName j)) :=
      pss_one (ps_set (i := j) hN hj (.inl hly) (pe_var hi (.inl hln) dn dc) sw (.inr hly))
    refine wpAny_mono (suite.run [] s6 _ H' D' S6 ⟨_, got, rfl, rfl⟩) (fun f s7 hsp => ?_) (fun _ _ z => False.elim z)
    cases f with
    | brk => exact hsp.elim fun _ z => z.elim fun _ z => z.2.elim
    | cont => exact hsp.elim fun _ z => z.elim fun _ z => z.2.elim
    | ret u => exact hsp.elim fun _ z => z.elim fun _ z => z.elim fun _ z => z.2.2.elim
    | next =>
      obtain ⟨σ7, H7, S7, e7, eH⟩ := hsp
      subst e7
      subst H7
      have keepP : ∀ p ∈ X.pn ++ ((a, oe5) :: pins), s7.heap.get? p.1 = some p.2 ∧ H' p.1 = none ∧ p.1 ≠ X.env.locals ∧ p.1 ∉ X.fs ∧ ∀ v, p.2.data ≠ .cell v := by
        intro p hp
        refine S7.pin p (List.mem_append_left _ ?_)
        rcases List.mem_append.mp hp with z | z
        · exact List.mem_cons_of_mem _ (List.mem_append_left _ z)
        · rcases List.mem_cons.mp z with z | z
          · rw [z]
            exact List.mem_cons_self
          · exact List.mem_cons_of_mem _ (List.mem_append_right _ z)
      have J7 : Inv X ((a, oe5) :: pins) ((σ'.set i (some (.ref a))).set j (some (.ref a))) H' s7 :=
        ⟨ok, S7.os, S7.bare, S7.base, S7.loc, S7.cell, S7.free, S7.freeC, keepP, S7.hok, S7.len⟩
      refine gone_ok J7 hN hi hln fun s8 J8 => ?_
      obtain ⟨e8, n8, _, _, _⟩ := J8.pin (a, oe5) (List.mem_append_right _ List.mem_cons_self)
      have J9 : Inv X pins (((σ'.set i (some (.ref a))).set j (some (.ref a))).set i none) H' s8 :=
        ⟨ok, J8.os, J8.bare, J8.base, J8.loc, J8.cell, J8.free, J8.freeC, fun p hp => J8.pin p (by
          rcases List.mem_append.mp hp with z | z
          · exact List.mem_append_left _ z
          · exact List.mem_append_right _ (List.mem_cons_of_mem _ z)), J8.hok, J8.len⟩
      exact ⟨_, _, track J9 e8 hz5 hd5 na new0 nL apart, yes a na⟩
  refine wpAny_Try_except ?_
  refine wpAny_mono ((hb (wKeep X.K c1 c2 c3 i j D) (X.pn ++ pins) caught tk PassesOwn.looking).run [] s σ H D (I.toTry _) h) (fun f s1 hsp => ?_) (fun e s1 he => he)
  cases f with
  | next => exact wpAny_execs_nil (hsp.elim fun σ' z => z.elim fun H' z => ⟨σ', H', z.1.ofTry ok, z.2⟩)
  | brk => exact hsp.elim fun σ' z => z.elim fun H' z => ⟨σ', H', z.1.ofTry ok, z.2⟩
  | cont => exact hsp.elim fun σ' z => z.elim fun H' z => ⟨σ', H', z.1.ofTry ok, z.2⟩
  | ret u =>
    obtain ⟨v, σ', H', J, r, q⟩ := hsp
    exact ⟨v, σ', H', J.ofTry ok, r, q⟩
end
end My
/-! isinstance of a caught error that a name holds -/
namespace My
open PySem PySem.Spec PyProof.Rows L2
section
variable {X : Cx}
theorem err_inst {pins : List (Addr × Obj)} {σ : L2.St} {H : Hp} {s : Shared} {a D : Addr} (I : Inv X pins σ H s)
    (h : H a = some (Err (.ref D) a)) : ∃ oe, PySem.W.InstAt s.heap a oe D none := by
  obtain ⟨⟨oe, vs, e, z, d⟩, _⟩ := I.hok a _ h
  obtain ⟨oc, od, da, sl⟩ := oe
  obtain ⟨z1, z2⟩ := z
  dsimp only at z1 z2 d
  subst z1 z2 d
  exact ⟨_, e, rfl, rfl, trivial⟩
def rIsErr (K : PySem.W.Frag) : List V → Hp → VK → Prop := fun xs H Q => ∃ (a D : Addr) (c : V) (cv : Value) (b : Bool),
  xs = [.ref a, c] ∧ H a = some (Err (.ref D) a) ∧ ExcC K D ∧ ClsV c cv ∧ PySem.W.kitOne K (.ref D) cv = some b ∧ Q (.bl b) H
theorem call_isErr : CallR X (.builtin "isinstance") (rIsErr X.K) := by
  intro pins s σ H xs us Q I r h
  obtain ⟨a, D, c, cv, b, rfl, ha, C, kc, e, q⟩ := h
  obtain ⟨u1, u2, rfl, r1, r2⟩ := vals2 r
  cases (show u1 = Value.ref a from r1)
  have e2 := kc.eq r2
  subst e2
  obtain ⟨oe, J⟩ := err_inst I ha
  exact PySem.W.kia_one (PySem.W.handS_kitx_exc C.hg C.hk C.hs C.hd C.ha C.hn C.ht C.hm) I.kIn J e (fun z => nomatch z)
    fun tk => ⟨.bl b, H, I.tok tk, rfl, q⟩
def rIsErrT (K : PySem.W.Frag) : List V → Hp → VK → Prop := fun xs H Q => ∃ (a D tp : Addr) (cs : List V) (us : List Value) (b : Bool),
  xs = [.ref a, .ref tp] ∧ H a = some (Err (.ref D) a) ∧ ExcC K D ∧ H tp = some (.tup cs) ∧ Paired ClsV cs us ∧
  PySem.W.kitAny K (.ref D) us = some b ∧ Q (.bl b) H
theorem call_isErrT : CallR X (.builtin "isinstance") (rIsErrT X.K) := by
  intro pins s σ H xs us Q I r h
  obtain ⟨a, D, tp, cs, ws, b, rfl, ha, C, hT, kc, e, q⟩ := h
  obtain ⟨u1, u2, rfl, r1, r2⟩ := vals2 r
  cases (show u1 = Value.ref a from r1)
  cases (show u2 = Value.ref tp from r2)
  obtain ⟨oe, J⟩ := err_inst I ha
  obtain ⟨_, its, rv, o, h1, h2, n, h3⟩ := (show ObjOk X.prog X.w H s.heap tp (.tup cs) from I.hok tp _ hT)
  have e3 := ClsV.all kc rv
  subst e3
  obtain ⟨oc, od, dt, sl⟩ := o
  dsimp only at h2 h3
  subst h2 h3
  exact PySem.W.kia_tup (PySem.W.handS_kitx_exc C.hg C.hk C.hs C.hd C.ha C.hn C.ht C.hm) I.kIn J h1 e (fun z => nomatch z)
    fun tk => ⟨.bl b, H, I.tok tk, rfl, q⟩
end
theorem kit_own {K : PySem.W.Frag} {D C : Addr} {b : Bool} (ne : (Value.ref D == Value.ref C) = false) (h1 : PySem.W.isClsIn K C = true)
    (h2 : PySem.W.typeIn K (.ref C) = some (.type "type")) (h3 : PySem.W.subIn K (.ref D) (.ref C) = some b) :
    PySem.W.kitOne K (.ref D) (.ref C) = some b := by
  have e : ((PySem.W.clsIn K C).isSome && PySem.W.typeIn K (.ref C) == some (.type "type")) = true := by
    have z : (PySem.W.clsIn K C).isSome = true := h1
    rw [z, h2] <;> rfl
  unfold PySem.W.kitOne
  rw [ne, if_neg Bool.false_ne_true]
  show (if _ then _ else _) = _
  rw [if_pos e]
  exact h3
theorem kit_self {K : PySem.W.Frag} {D : Addr} : PySem.W.kitOne K (.ref D) (.ref D) = some true := if_pos (beq_self_eq_true _)
theorem kit_typ {K : PySem.W.Frag} {D : Addr} {T : String} {b : Bool} (h : PySem.W.kitMeta T = true)
    (h3 : PySem.W.subIn K (.ref D) (.type T) = some b) : PySem.W.kitOne K (.ref D) (.type T) = some b := by
  have ne : (Value.ref D == Value.type T) = false := rfl
  unfold PySem.W.kitOne
  rw [ne, if_neg Bool.false_ne_true]
  show (if _ then _ else _) = _
  rw [if_pos h]
  exact h3
end My
/-! rules whose reading names the written part, said with a letter for it (within a comprehension's element) -/
namespace My
open PySem PySem.Spec PyProof.Rows L2
section
variable {X : Cx} {K : PySem.W.Frag}
theorem ix_listK (e : X.K = K) : IxR X (rIxL K) := e ▸ ix_list
theorem ix_tupK (e : X.K = K) : IxR X (rIxT K) := e ▸ ix_tup
theorem sl_listK (e : X.K = K) : SlR X (rSlL K) := e ▸ sl_list
theorem sl_tupK (e : X.K = K) : SlR X (rSlT K) := e ▸ sl_tup
def rLenSeq (K : PySem.W.Frag) : List V → Hp → VK → Prop := fun xs H Q => ∃ p ys, xs = [.ref p] ∧ (SqL K H p ys ∨ SqT K H p ys) ∧ Q (.int ys.length) H
theorem len_seqK (e : X.K = K) : CallR X (.builtin "len") (rLenSeq K) := e ▸ call_len_seq
def rListOf (K : PySem.W.Frag) : List V → Hp → VK → Prop := fun xs H Q => ∃ p ys, xs = [.ref p] ∧ (SqL K H p ys ∨ SqT K H p ys) ∧ ∀ l, H l = none → Q (.ref l) (upd H l (.lst ys))
theorem list_ofK (e : X.K = K) : CallR X (.type "list") (rListOf K) := e ▸ call_list_of
theorem in_seqK (e : X.K = K) : OpR X (compareOp .In) (rIn K false) := e ▸ op_in_seq
theorem notIn_seqK (e : X.K = K) : OpR X (compareOp .NotIn) (rIn K true) := e ▸ op_notIn_seq
theorem eqDK (e : X.K = K) (hu : X.A.units + 64 < cLine) : OpR X (compareOp .Eq) (rEqD K) := e ▸ op_eqD hu
theorem neDK (e : X.K = K) (hu : X.A.units + 64 < cLine) : OpR X (compareOp .NotEq) (rNeD K) := e ▸ op_neD hu
theorem ps_nox {st : Stmt} {t : TS} (h : PS X.nox st t) : PS X st t := ⟨fun pins s σ H D I hw =>
  wpAny_mono (h.run pins s σ H D (I.wish _) hw) (fun f s' q => q.unwish) fun _ _ z => False.elim z⟩
theorem pe_K {T : String} {r : V → List V → Hp → VK → Prop} {to : TE} {t : TA} {ex : Expr} (e : X.K = K) (h : PE X ex (tBM X.K T r to t)) : PE X ex (tBM K T r to t) := e ▸ h
theorem pe_K0 {T : String} {r : V → List V → Hp → VK → Prop} {to : TE} {ex : Expr} (e : X.K = K) (h : PE X ex (tBM0 X.K T r to)) : PE X ex (tBM0 K T r to) := e ▸ h
theorem pi_listK {tg l : Expr} {tl : TE} (e : X.K = K) (h : PE X l tl) : PI X tg l (iList K tl) := e ▸ pi_list h
end
end My
/-! the bag of draws, apart from all else; boards as data -/
namespace My
open PySem PySem.Spec PyProof.Rows L2
/-! ### the heap without the two objects that draws change -/
def Off (b l : Addr) (H : Hp) : Hp := fun c => if c = b ∨ c = l then none else H c
theorem off_eq {b l c : Addr} {H : Hp} (h1 : c ≠ b) (h2 : c ≠ l) : Off b l H c = H c := if_neg fun z => z.elim h1 h2
theorem off_some {b l c : Addr} {H : Hp} {o : HO} (h : Off b l H c = some o) : c ≠ b ∧ c ≠ l ∧ H c = some o := by
  unfold Off at h
  split at h
  · cases h
  · rename_i z
    exact ⟨fun e => z (.inl e), fun e => z (.inr e), h⟩
abbrev Ext (b l : Addr) (H H' : Hp) : Prop := Same (Off b l H) (Off b l H')
theorem Ext.refl (b l : Addr) (H : Hp) : Ext b l H H := Same.refl _
theorem Ext.trans {b l : Addr} {H H1 H2 : Hp} (x : Ext b l H H1) (y : Ext b l H1 H2) : Ext b l H H2 := Same.trans x y
theorem Ext.of_same {b l : Addr} {H H' : Hp} (s : Same H H') : Ext b l H H' := fun c o h => by
  obtain ⟨h1, h2, h3⟩ := off_some h
  rw [off_eq h1 h2]
  exact s c o h3
theorem Ext.get {b l c : Addr} {H H' : Hp} {o : HO} (x : Ext b l H H') (h : H c = some o) (h1 : c ≠ b) (h2 : c ≠ l) : H' c = some o := by
  have z := x c o (by rw [off_eq h1 h2]; exact h)
  rw [off_eq h1 h2] at z
  exact z
theorem Ext.at_b {b l : Addr} {H : Hp} {o : HO} : Ext b l H (upd H b o) := fun c u h => by
  obtain ⟨h1, h2, h3⟩ := off_some h
  rw [off_eq h1 h2, upd_ne h1]
  exact h3
theorem Ext.at_l {b l : Addr} {H : Hp} {o : HO} : Ext b l H (upd H l o) := fun c u h => by
  obtain ⟨h1, h2, h3⟩ := off_some h
  rw [off_eq h1 h2, upd_ne h2]
  exact h3
theorem same_new {H : Hp} {p : Addr} {o : HO} (h : H p = none) : Same H (upd H p o) := fun c u e => by
  rw [upd_ne (ne_of_none e h)]
  exact e
/-- a new object that changes afterwards is none of the elder ones -/
theorem Ext.over {b l p : Addr} {H H' : Hp} {o : HO} (x : Ext b l H H') (h : H p = none) : Ext b l H (upd H' p o) := fun c u e => by
  obtain ⟨h1, h2, h3⟩ := off_some e
  rw [off_eq h1 h2, upd_ne (ne_of_none h3 h)]
  exact x.get h3 h1 h2
theorem same_over {p : Addr} {H H' : Hp} {o : HO} (x : Same H H') (h : H p = none) : Same H (upd H' p o) := fun c u e => by
  rw [upd_ne (ne_of_none e h)]
  exact x c u e
/-- the bag: its list at b, the digits at l -/
structure Bag (H : Hp) (b l : Addr) : Prop where
  ob : ∃ (i : Nat) (s n : Int), H b = some (.lst [.ref l, .int i, .int s, .int n]) ∧ 0 ≤ s ∧ s < 2305843009213693951
  ds : ∃ xs : List Int, H l = some (.lst (xs.map V.int)) ∧ ∀ x ∈ xs, 0 ≤ x
  ne : b ≠ l
theorem Bag.same {H H' : Hp} {b l : Addr} (B : Bag H b l) (s : Same H H') : Bag H' b l := by
  obtain ⟨⟨i, m, n, h1, r⟩, ⟨xs, h2, q⟩, ne⟩ := B
  exact ⟨⟨i, m, n, s _ _ h1, r⟩, ⟨xs, s _ _ h2, q⟩, ne⟩
theorem Bag.nb {H : Hp} {b l p : Addr} (B : Bag H b l) (h : H p = none) : p ≠ b := fun z => by
  obtain ⟨i, m, n, h1, _⟩ := B.ob
  rw [← z, h] at h1
  cases h1
theorem Bag.nl {H : Hp} {b l p : Addr} (B : Bag H b l) (h : H p = none) : p ≠ l := fun z => by
  obtain ⟨xs, h1, _⟩ := B.ds
  rw [← z, h] at h1
  cases h1
/-- an object that is neither of the two changes -/
theorem Bag.put {H : Hp} {b l p : Addr} {o : HO} (B : Bag H b l) (h1 : p ≠ b) (h2 : p ≠ l) : Bag (upd H p o) b l := by
  obtain ⟨⟨i, m, n, e1, r⟩, ⟨xs, e2, q⟩, ne⟩ := B
  exact ⟨⟨i, m, n, by rw [upd_ne h1.symm]; exact e1, r⟩, ⟨xs, by rw [upd_ne h2.symm]; exact e2, q⟩, ne⟩
/-- a number below count -/
def spDraw : Sp := fun vs H Q _ => ∃ (b l : Addr) (c : Int), vs = [.ref b, .int c] ∧ Bag H b l ∧ 0 < c ∧ c < 1073741824 ∧
  ∀ (r : Int) (H' : Hp), 0 ≤ r → r < c → Bag H' b l → Ext b l H H' → Q (.int r) H'
/-- a new bag -/
def spBag (K : PySem.W.Frag) : Sp := fun vs H Q _ => ∃ (a : Addr) (ns : List Int), vs = [.ref a] ∧ SqL K H a (ns.map V.int) ∧ ns.length ≤ 63 ∧
  ∀ (b l : Addr) (H' : Hp), H b = none → H l = none → Bag H' b l → Same H H' → Q (.ref b) H'
theorem item_int {ns : List Int} {i : Nat} {y : V} (h : (ns.map V.int)[i]? = some y) : ∃ z, ns[i]? = some z ∧ y = V.int z := by
  rw [List.getElem?_map] at h
  cases e : ns[i]? with
  | none =>
    rw [e] at h
    cases h
  | some z =>
    rw [e] at h
    exact ⟨z, rfl, (Option.some.inj h).symm⟩
theorem item_str {ns : List Str} {i : Nat} {y : V} (h : (ns.map V.str)[i]? = some y) : ∃ z, ns[i]? = some z ∧ y = V.str z := by
  rw [List.getElem?_map] at h
  cases e : ns[i]? with
  | none =>
    rw [e] at h
    cases h
  | some z =>
    rw [e] at h
    exact ⟨z, rfl, (Option.some.inj h).symm⟩
theorem map_at {α : Type} {f : α → V} {xs : List α} {i : Nat} {x : α} (h : xs[i]? = some x) : (xs.map f)[i]? = some (f x) := by
  rw [List.getElem?_map, h]
  rfl
theorem cut_map {α : Type} {f : α → V} {xs : List α} {lo hi : Option Int} : ∃ ys : List α, cutV (xs.map f) lo hi = ys.map f ∧ ys.length ≤ xs.length ∧ ∀ y ∈ ys, y ∈ xs := by
  have e : cutV (xs.map f) lo hi = ((xs.drop (HT.sIx (xs.map f).length 0 lo)).take
      (HT.sIx (xs.map f).length (xs.map f).length hi - HT.sIx (xs.map f).length 0 lo)).map f := by
    rw [List.map_take, List.map_drop]
    rfl
  refine ⟨_, e, ?_, fun y hy => List.mem_of_mem_drop (List.mem_of_mem_take hy)⟩
  rw [List.length_take, List.length_drop]
  omega
/-- plain signs alone -/
def Lo (z : Str) : Prop := ∀ c ∈ z.cps.toList, c < 128
theorem Lo.app {a b : Str} (ha : Lo a) (hb : Lo b) : Lo (a ++ b) := fun c h => by
  have e : (a ++ b).cps.toList = a.cps.toList ++ b.cps.toList := by
    show (a.cps ++ b.cps).toList = _
    rw [Array.toList_append]
  rw [e] at h
  rcases List.mem_append.mp h with h | h
  · exact ha c h
  · exact hb c h
theorem lo_one {c : Nat} (h : c < 128) : Lo ⟨#[c]⟩ := fun d hd => by
  have e : d = c := by simpa using hd
  rw [e]
  exact h
/-- a name of at most eight signs -/
structure Ok8 (z : Str) : Prop where
  n8 : z.length ≤ 8
  lo : Lo z
/-- names of at most eight signs -/
def W8 (ws : List Str) : Prop := ∀ z ∈ ws, Ok8 z
theorem w8_nil : W8 [] := fun z h => by cases h
theorem W8.snoc {ws : List Str} {z : Str} (h : W8 ws) (hz : Ok8 z) : W8 (ws ++ [z]) := fun y hy => by
  rcases List.mem_append.mp hy with q | q
  · exact h y q
  · cases List.mem_singleton.mp q
    exact hz
theorem str_add (a b : Str) : (a ++ b).length = a.length + b.length := by first | exact strLen_append a b | exact PySem.Str.length_append a b
theorem join0 : ∀ ws : List Str, (∀ z ∈ ws, z.length = 1) → (Str.join "" ws).length = ws.length
  | [], _ => rfl
  | [x], h => h x List.mem_cons_self
  | x :: y :: r, h => by
    have ih := join0 (y :: r) fun z hz => h z (List.mem_cons_of_mem _ hz)
    show (x ++ "" ++ Str.join "" (y :: r)).length = _
    rw [str_add, str_add, h x List.mem_cons_self, ih]
    have e : (("" : String) : Str).length = 0 := rfl
    rw [e, List.length_cons, List.length_cons, List.length_cons]
    omega
theorem lo_join : ∀ ws : List Str, (∀ z ∈ ws, Lo z) → Lo (Str.join "" ws)
  | [], _ => fun c h => by
    have e : (Str.join "" []).cps.toList = [] := rfl
    rw [e] at h
    cases h
  | [x], h => h x List.mem_cons_self
  | x :: y :: r, h => by
    have ih := lo_join (y :: r) fun z hz => h z (List.mem_cons_of_mem _ hz)
    show Lo (x ++ "" ++ Str.join "" (y :: r))
    refine Lo.app (Lo.app (h x List.mem_cons_self) fun c hc => ?_) ih
    have e : (("" : String) : Str).cps.toList = [] := rfl
    rw [e] at hc
    cases hc
theorem sum_ones : ∀ ws : List Str, (∀ z ∈ ws, z.length = 1) → (ws.map (·.length)).sum = ws.length
  | [], _ => rfl
  | x :: r, h => by
    have ih := sum_ones r fun z hz => h z (List.mem_cons_of_mem _ hz)
    rw [List.map_cons, List.sum_cons, ih, h x List.mem_cons_self, List.length_cons]
    omega
/-- so many names, a new list -/
def spPool : Sp := fun vs H Q _ => ∃ (b l : Addr) (c : Int), vs = [.ref b, .int c] ∧ Bag H b l ∧ 0 ≤ c ∧ c ≤ 96 ∧
  ∀ (p : Addr) (ws : List Str) (H' : Hp), H p = none → p ≠ b → p ≠ l → (ws.length : Int) = c → W8 ws →
    H' p = some (.lst (ws.map V.str)) → Bag H' b l → Ext b l H H' → Q (.ref p) H'
theorem lt_size {n m : Nat} (h : n < m) (h2 : m ≤ 1000) : n < sizeLine := small1000 (by omega)
/-! ### boards as data -/
structure Kp where
  name : Str
  room : Int
  whole : Bool
  row : List Str
structure Tm where
  least : Int
  ks : List Kp
def KpAt (H : Hp) (a : Addr) (k : Kp) : Prop := ∃ r, H a = some (.tup [.str k.name, .int k.room, .bl k.whole, .ref r]) ∧ H r = some (.lst (k.row.map V.str))
def TmAt (H : Hp) (a : Addr) (t : Tm) : Prop := ∃ (c : Addr) (as : List Addr), H a = some (.tup [.int t.least, .ref c]) ∧ H c = some (.lst (as.map V.ref)) ∧ Paired (KpAt H) as t.ks
def BdAt (H : Hp) (a : Addr) (bd : List Tm) : Prop := ∃ as : List Addr, H a = some (.lst (as.map V.ref)) ∧ Paired (TmAt H) as bd
theorem KpAt.same {H H' : Hp} (s : Same H H') {a : Addr} {k : Kp} (h : KpAt H a k) : KpAt H' a k := by
  obtain ⟨r, h1, h2⟩ := h
  exact ⟨r, s _ _ h1, s _ _ h2⟩
theorem TmAt.same {H H' : Hp} (s : Same H H') {a : Addr} {t : Tm} (h : TmAt H a t) : TmAt H' a t := by
  obtain ⟨c, as, h1, h2, h3⟩ := h
  exact ⟨c, as, s _ _ h1, s _ _ h2, L2.Paired.mapP h3 fun _ _ q => q.same s⟩
theorem BdAt.same {H H' : Hp} (s : Same H H') {a : Addr} {bd : List Tm} (h : BdAt H a bd) : BdAt H' a bd := by
  obtain ⟨as, h1, h2⟩ := h
  exact ⟨as, s _ _ h1, L2.Paired.mapP h2 fun _ _ q => q.same s⟩
theorem off_same (b l : Addr) (H : Hp) : Same (Off b l H) H := fun c o h => (off_some h).2.2
/-- what is new in H', seen from H -/
def Nw (H H' : Hp) : Hp := fun c => match H c with
  | none => H' c
  | some _ => none
theorem nw_eq {H H' : Hp} {c : Addr} (h : H c = none) : Nw H H' c = H' c := by
  unfold Nw
  rw [h]
theorem nw_some {H H' : Hp} {c : Addr} {o : HO} (h : Nw H H' c = some o) : H c = none ∧ H' c = some o := by
  unfold Nw at h
  split at h
  · rename_i e
    exact ⟨e, h⟩
  · cases h
def Of1 (d : Addr) (H : Hp) : Hp := fun c => if c = d then none else H c
theorem of1_eq {d c : Addr} {H : Hp} (h : c ≠ d) : Of1 d H c = H c := if_neg h
theorem of1_some {d c : Addr} {H : Hp} {o : HO} (h : Of1 d H c = some o) : c ≠ d ∧ H c = some o := by
  unfold Of1 at h
  split at h
  · cases h
  · rename_i z
    exact ⟨z, h⟩
theorem of1_same {d : Addr} {H H' : Hp} (s : Same H H') : Same (Of1 d H) (Of1 d H') := fun c o h => by
  obtain ⟨h1, h2⟩ := of1_some h
  rw [of1_eq h1]
  exact s c o h2
theorem of1_less (d : Addr) (H : Hp) : Same (Of1 d H) H := fun c o h => (of1_some h).2
structure KpOk (k : Kp) : Prop where
  n8 : Ok8 k.name
  r1 : 1 ≤ k.room
  r12 : k.room ≤ 12
  l12 : k.row.length ≤ 12
  w8 : W8 k.row
structure TmOk (t : Tm) : Prop where
  l0 : 0 ≤ t.least
  l9 : t.least ≤ 9
  k8 : t.ks.length ≤ 8
  ok : ∀ k ∈ t.ks, KpOk k
structure BdOk (bd : List Tm) : Prop where
  t3 : bd.length ≤ 3
  ok : ∀ t ∈ bd, TmOk t
theorem paired_snoc {α β : Type} {F : α → β → Prop} {x : α} {y : β} : ∀ {xs : List α} {ys : List β}, Paired F xs ys → F x y → Paired F (xs ++ [x]) (ys ++ [y])
  | _, _, .nil, h => .cons h .nil
  | _, _, .cons h r, q => .cons h (paired_snoc r q)
theorem paired_app {α β : Type} {F : α → β → Prop} : ∀ {xs zs : List α} {ys ws : List β}, Paired F xs ys → Paired F zs ws → Paired F (xs ++ zs) (ys ++ ws)
  | _, _, _, _, .nil, h => h
  | _, _, _, _, .cons h r, q => .cons h (paired_app r q)
theorem paired_at {α β : Type} {F : α → β → Prop} : ∀ {xs : List α} {ys : List β} {i : Nat} {x : α}, Paired F xs ys → xs[i]? = some x → ∃ y, ys[i]? = some y ∧ F x y
  | _, _, _, _, .nil, e => by simp at e
  | _, _, 0, _, .cons h r, e => ⟨_, rfl, by cases e; exact h⟩
  | _, _, i + 1, _, .cons h r, e => paired_at (i := i) r e
/-- two ways that meet -/
theorem join2 {c : Bool} {ta tb : TE} {σ : L2.St} {H : Hp} {Q : VK} (φ : V → Hp → Prop) (hq : ∀ v H', φ v H' → Q v H')
    (h : (∀ v H', φ v H' → Q v H') → if c = true then ta σ H Q else tb σ H Q) : if c = true then ta σ H Q else tb σ H Q := h hq
/-- a keeper of some names -/
def spKeeper : Sp := fun vs H Q _ => ∃ (b l so : Addr) (n : Str) (ws : List Str), vs = [.ref b, .str n, .ref so] ∧ Bag H b l ∧
  H so = some (.lst (ws.map V.str)) ∧ so ≠ b ∧ so ≠ l ∧ W8 ws ∧ 12 ≤ ws.length ∧ ws.length ≤ 96 ∧ Ok8 n ∧
  ∀ (a : Addr) (k : Kp) (H' : Hp), k.name = n → KpOk k → KpAt (Nw H H') a k → Bag H' b l → Ext b l H H' → Q (.ref a) H'
/-- a board -/
def spBoard : Sp := fun vs H Q _ => ∃ (b l : Addr), vs = [.ref b] ∧ Bag H b l ∧
  ∀ (a : Addr) (bd : List Tm) (H' : Hp), BdOk bd → BdAt (Nw H H') a bd → Bag H' b l → Ext b l H H' → Q (.ref a) H'
theorem Ext.free {b l p : Addr} {H H' : Hp} (x : Ext b l H H') (h : H' p = none) (h1 : p ≠ b) (h2 : p ≠ l) : H p = none := by
  cases q : H p with
  | none => rfl
  | some o =>
    have z := x.get q h1 h2
    rw [h] at z
    cases z
theorem w8_erase {ws : List Str} {j : Nat} (h : W8 ws) : W8 (ws.eraseIdx j) := fun z hz => h z (List.mem_of_mem_eraseIdx hz)
theorem erase_map {α : Type} {f : α → V} : ∀ (l : List α) (j : Nat), (l.map f).eraseIdx j = (l.eraseIdx j).map f
  | [], _ => rfl
  | _ :: _, 0 => rfl
  | a :: r, j + 1 => congrArg (f a :: ·) (erase_map r j)
theorem Bag.tb {H : Hp} {b l : Addr} (B : Bag H b l) : H b ≠ none ∧ H l ≠ none := by
  obtain ⟨i, m, n, h1, _⟩ := B.ob
  obtain ⟨xs, h2, _⟩ := B.ds
  exact ⟨by rw [h1]; simp, by rw [h2]; simp⟩
/-- what was new stays, where draws alone changed -/
theorem nw_ext {b l : Addr} {H H' H'' : Hp} (B : Bag H b l) (x : Ext b l H' H'') : Same (Nw H H') (Nw H H'') := fun c o h => by
  obtain ⟨h1, h2⟩ := nw_some h
  rw [nw_eq h1]
  exact x.get h2 (fun z => B.tb.1 (by rw [← z]; exact h1)) (fun z => B.tb.2 (by rw [← z]; exact h1))
/-- what is new behind a later state is new -/
theorem nw_later {b l : Addr} {H H' H'' : Hp} (B : Bag H b l) (x : Ext b l H H') (B' : Bag H' b l) : Same (Nw H' H'') (Nw H H'') := fun c o h => by
  obtain ⟨h1, h2⟩ := nw_some h
  rw [nw_eq (x.free h1 (B'.nb h1) (B'.nl h1))]
  exact h2
theorem nw_upd {H H' : Hp} {d : Addr} {o : HO} : Same (Of1 d (Nw H H')) (Of1 d (Nw H (upd H' d o))) := fun c u h => by
  obtain ⟨h1, h2⟩ := of1_some h
  obtain ⟨h3, h4⟩ := nw_some h2
  rw [of1_eq h1, nw_eq h3, upd_ne h1]
  exact h4
theorem cut_pre {α : Type} {f : α → V} {xs : List α} {k : Nat} : ∃ ys : List α, cutV (xs.map f) none (some (k : Int)) = ys.map f ∧ ys.length = min k xs.length ∧ ∀ y ∈ ys, y ∈ xs := by
  refine ⟨xs.take k, ?_, List.length_take, fun y hy => List.mem_of_mem_take hy⟩
  unfold cutV
  rw [HT.sIx_none, HT.sIx_nat, List.drop_zero, List.map_take, List.length_map]
  show (xs.map f).take (min k xs.length - 0) = _
  rw [Nat.sub_zero]
  have e : xs.length = (xs.map f).length := (List.length_map _).symm
  rw [e, List.take_eq_take_iff]
  omega
theorem of2_get {f d c : Addr} {H H' : Hp} {u : HO} (h : Of1 f (Of1 d (Nw H H')) c = some u) : c ≠ f ∧ c ≠ d ∧ H c = none ∧ H' c = some u := by
  obtain ⟨h1, h2⟩ := of1_some h
  obtain ⟨h3, h4⟩ := of1_some h2
  obtain ⟨h5, h6⟩ := nw_some h4
  exact ⟨h1, h3, h5, h6⟩
theorem of2_put {f d c : Addr} {H H' : Hp} {u : HO} (h1 : c ≠ f) (h2 : c ≠ d) (h3 : H c = none) (h4 : H' c = some u) : Of1 f (Of1 d (Nw H H')) c = some u := by
  rw [of1_eq h1, of1_eq h2, nw_eq h3]
  exact h4
theorem of3_get {e f d c : Addr} {H H' : Hp} {u : HO} (h : Of1 e (Of1 f (Of1 d (Nw H H'))) c = some u) : c ≠ e ∧ c ≠ f ∧ c ≠ d ∧ H c = none ∧ H' c = some u := by
  obtain ⟨h1, h2⟩ := of1_some h
  exact ⟨h1, of2_get h2⟩
theorem of3_put {e f d c : Addr} {H H' : Hp} {u : HO} (h0 : c ≠ e) (h1 : c ≠ f) (h2 : c ≠ d) (h3 : H c = none) (h4 : H' c = some u) : Of1 e (Of1 f (Of1 d (Nw H H'))) c = some u := by
  rw [of1_eq h0]
  exact of2_put h1 h2 h3 h4
theorem seq_at {n j : Nat} (h : j < n) : seqIndex? (j : Int) n = some j := (ixN_seq (by unfold ixN; simp; omega)).1
end My
/-! boards as Python data, and how long their repr is -/
namespace My
open PySem PySem.Spec PyProof.Rows L2
def dStrs (ws : List Str) : PyData := .list (ws.map PyData.str)
def dKp (k : Kp) : PyData := .tuple [.str k.name, .int k.room, .bool k.whole, dStrs k.row]
def dTm (t : Tm) : PyData := .tuple [.int t.least, .list (t.ks.map dKp)]
def dBd (bd : List Tm) : PyData := .list (bd.map dTm)
section
variable {K : PySem.W.Frag} {H : Hp}
theorem dp_strs : ∀ ws : List Str, DpAll K H (ws.map V.str) (ws.map PyData.str)
  | [] => .nil
  | x :: r => .cons (.str x) (dp_strs r)
theorem dp_pair {α : Type} {F : Addr → α → Prop} {d : α → PyData} (h : ∀ a x, F a x → Dp K H (.ref a) (d x)) : ∀ {as : List Addr} {xs : List α}, Paired F as xs → DpAll K H (as.map V.ref) (xs.map d)
  | _, _, .nil => .nil
  | _, _, .cons q r => .cons (h _ _ q) (dp_pair h r)
theorem dp_kp {a : Addr} {k : Kp} (h : KpAt H a k) : Dp K H (.ref a) (dKp k) := by
  obtain ⟨r, h1, h2⟩ := h
  exact .tup (SqT.of h1) (.cons (.str _) (.cons (.int _) (.cons (.bl _) (.cons (.lst (SqL.of h2) (dp_strs _)) .nil))))
theorem dp_tm {a : Addr} {t : Tm} (h : TmAt H a t) : Dp K H (.ref a) (dTm t) := by
  obtain ⟨c, as, h1, h2, h3⟩ := h
  exact .tup (SqT.of h1) (.cons (.int _) (.cons (.lst (SqL.of h2) (dp_pair (fun _ _ q => dp_kp q) h3)) .nil))
theorem dp_bd {a : Addr} {bd : List Tm} (h : BdAt H a bd) : Dp K H (.ref a) (dBd bd) := by
  obtain ⟨as, h1, h2⟩ := h
  exact .lst (SqL.of h1) (dp_pair (fun _ _ q => dp_tm q) h2)
end
/-! ### sizes -/
theorem from_le : ∀ (ts : List Str) (k : Nat) (acc : Str), (textFrom k acc ts).length ≤ acc.length + piled ts
  | [], _, acc => Nat.le_refl _
  | t :: r, k, acc => by
    have ih := from_le r (k + 1) (acc ++ (if k > 0 then ", " else "" : String) ++ t)
    show (textFrom (k + 1) _ r).length ≤ _
    rw [str_add, str_add] at ih
    rw [piled_cons]
    have e : (((if k > 0 then ", " else "" : String) : Str)).length ≤ 2 := by split <;> decide
    omega
theorem list_le (ts : List Str) : (listText ts).length ≤ piled ts + 2 := by
  unfold listText
  rw [str_add]
  have h := from_le ts 0 "["
  have e1 : ((("[" : String) : Str)).length = 1 := rfl
  have e2 : ((("]" : String) : Str)).length = 1 := rfl
  omega
theorem join_le : ∀ ts : List Str, (Str.join ", " ts).length ≤ piled ts
  | [] => Nat.zero_le _
  | [x] => by
    rw [piled_cons]
    show x.length ≤ _
    omega
  | x :: y :: r => by
    have ih := join_le (y :: r)
    show (x ++ ", " ++ Str.join ", " (y :: r)).length ≤ _
    have e2 : (((", " : String) : Str)).length = 2 := rfl
    rw [str_add, str_add, e2, piled_cons]
    omega
theorem tuple_le (ts : List Str) : (tupleText ts).length ≤ piled ts + 3 := by
  unfold tupleText
  rw [str_add, str_add]
  have h := join_le ts
  have e1 : ((("(" : String) : Str)).length = 1 := rfl
  have e3 : (((if ts.length == 1 then ",)" else ")" : String) : Str)).length ≤ 2 := by split <;> decide
  omega
theorem piled_le {m : Nat} : ∀ {ts : List Str}, (∀ t ∈ ts, t.length ≤ m) → piled ts ≤ (m + 2) * ts.length
  | [], _ => Nat.zero_le _
  | t :: r, h => by
    have ih := piled_le (ts := r) fun x hx => h x (List.mem_cons_of_mem _ hx)
    have h1 := h t List.mem_cons_self
    rw [piled_cons, List.length_cons, Nat.mul_add]
    omega
theorem shownAll_len : ∀ ds : List PyData, (PyData.shownAll ds).length = ds.length
  | [] => by rw [PyData.shownAll]; rfl
  | d :: r => by rw [PyData.shownAll, List.length_cons, List.length_cons, shownAll_len r]
theorem shownAll_le {m : Nat} : ∀ {ds : List PyData}, (∀ d ∈ ds, d.shown.length ≤ m) → ∀ t ∈ PyData.shownAll ds, t.length ≤ m
  | [], _, t, ht => by rw [PyData.shownAll] at ht; cases ht
  | d :: r, h, t, ht => by
    rw [PyData.shownAll] at ht
    rcases List.mem_cons.mp ht with e | e
    · rw [e]
      exact h d List.mem_cons_self
    · exact shownAll_le (fun x hx => h x (List.mem_cons_of_mem _ hx)) t e
theorem list_shown {m n : Nat} {ds : List PyData} (h : ∀ d ∈ ds, d.shown.length ≤ m) (hn : ds.length ≤ n) : (PyData.list ds).shown.length ≤ (m + 2) * n + 2 := by
  rw [PyData.shown]
  have h1 := list_le (PyData.shownAll ds)
  have h2 := piled_le (shownAll_le h)
  rw [shownAll_len] at h2
  have h3 : (m + 2) * ds.length ≤ (m + 2) * n := Nat.mul_le_mul_left _ hn
  omega
theorem int_shown {i : Int} (h0 : 0 ≤ i) (h1 : i ≤ 12) : (PyData.int i).shown.length ≤ 2 := by
  rw [PyData.shown]
  have e : i = 0 ∨ i = 1 ∨ i = 2 ∨ i = 3 ∨ i = 4 ∨ i = 5 ∨ i = 6 ∨ i = 7 ∨ i = 8 ∨ i = 9 ∨ i = 10 ∨ i = 11 ∨ i = 12 := by omega
  rcases e with e | e | e | e | e | e | e | e | e | e | e | e | e <;> (subst e; decide +kernel)
theorem str_shown {z : Str} (h : Ok8 z) : (PyData.str z).shown.length ≤ 82 := by
  rw [PyData.shown]
  have := StrLaws.reprText_len z fun c hc => Nat.lt_trans (h.lo c hc) (by decide)
  have := h.n8
  omega
theorem strs_shown {ws : List Str} (h : W8 ws) (hl : ws.length ≤ 12) : (dStrs ws).shown.length ≤ 1010 := by
  have q := list_shown (m := 82) (n := 12) (ds := ws.map PyData.str) (fun d hd => by
    obtain ⟨z, hz, rfl⟩ := List.mem_map.mp hd
    exact str_shown (h z hz)) (by rw [List.length_map]; exact hl)
  exact q
theorem kp_shown {k : Kp} (h : KpOk k) : (dKp k).shown.length ≤ 1200 := by
  unfold dKp
  rw [PyData.shown]
  have h1 := tuple_le (PyData.shownAll [.str k.name, .int k.room, .bool k.whole, dStrs k.row])
  rw [PyData.shownAll, PyData.shownAll, PyData.shownAll, PyData.shownAll, PyData.shownAll, piled_cons, piled_cons, piled_cons, piled_cons, piled_nil] at h1
  have a := str_shown h.n8
  have b := int_shown (i := k.room) (by have := h.r1; omega) h.r12
  have c := strs_shown h.w8 h.l12
  have d : (PyData.bool k.whole).shown.length ≤ 5 := by
    rw [PyData.shown]
    cases k.whole <;> decide
  rw [PyData.shownAll, PyData.shownAll, PyData.shownAll, PyData.shownAll, PyData.shownAll]
  omega
theorem tm_shown {t : Tm} (h : TmOk t) : (dTm t).shown.length ≤ 9700 := by
  unfold dTm
  rw [PyData.shown]
  have h1 := tuple_le (PyData.shownAll [.int t.least, .list (t.ks.map dKp)])
  rw [PyData.shownAll, PyData.shownAll, PyData.shownAll, piled_cons, piled_cons, piled_nil] at h1
  have b := int_shown (i := t.least) h.l0 (by have := h.l9; omega)
  have c := list_shown (m := 1200) (n := 8) (ds := t.ks.map dKp) (fun d hd => by
    obtain ⟨z, hz, rfl⟩ := List.mem_map.mp hd
    exact kp_shown (h.ok z hz)) (by rw [List.length_map]; exact h.k8)
  rw [PyData.shownAll, PyData.shownAll, PyData.shownAll]
  omega
theorem bd_shown {bd : List Tm} (h : BdOk bd) : (dBd bd).shown.length ≤ sizeLine := by
  have c := list_shown (m := 9700) (n := 3) (ds := bd.map dTm) (fun d hd => by
    obtain ⟨z, hz, rfl⟩ := List.mem_map.mp hd
    exact tm_shown (h.ok z hz)) (by rw [List.length_map]; exact h.t3)
  rw [sizeLine_eq]
  unfold dBd
  omega
/-! ### they can be shown -/
theorem all_showable : ∀ {ds : List PyData}, (∀ d ∈ ds, d.showable = true) → PyData.showableAll ds = true
  | [], _ => by rw [PyData.showableAll]
  | d :: r, h => by
    rw [PyData.showableAll, h d List.mem_cons_self, all_showable fun x hx => h x (List.mem_cons_of_mem _ hx)]
    rfl
theorem all_noDict : ∀ {ds : List PyData}, (∀ d ∈ ds, d.hasDict = false) → PyData.hasDictAll ds = false
  | [], _ => by rw [PyData.hasDictAll]
  | d :: r, h => by
    rw [PyData.hasDictAll, h d List.mem_cons_self, all_noDict fun x hx => h x (List.mem_cons_of_mem _ hx)]
    rfl
theorem all_depth {m : Nat} : ∀ {ds : List PyData}, (∀ d ∈ ds, d.depth ≤ m) → PyData.depthAll ds ≤ m
  | [], _ => by rw [PyData.depthAll]; exact Nat.zero_le _
  | d :: r, h => by
    rw [PyData.depthAll]
    exact Nat.max_le.mpr ⟨h d List.mem_cons_self, all_depth fun x hx => h x (List.mem_cons_of_mem _ hx)⟩
/-- it can be shown, is no dict and at most m deep -/
structure Shw (m : Nat) (d : PyData) : Prop where
  s : d.showable = true
  n : d.hasDict = false
  p : d.depth ≤ m
theorem shw_list {m : Nat} {ds : List PyData} (h : ∀ d ∈ ds, Shw m d) : Shw (m + 1) (.list ds) :=
  ⟨by rw [PyData.showable]; exact all_showable fun d hd => (h d hd).s, by rw [PyData.hasDict]; exact all_noDict fun d hd => (h d hd).n,
    by rw [PyData.depth]; exact Nat.succ_le_succ (all_depth fun d hd => (h d hd).p)⟩
theorem shw_tup {m : Nat} {ds : List PyData} (h : ∀ d ∈ ds, Shw m d) : Shw (m + 1) (.tuple ds) :=
  ⟨by rw [PyData.showable]; exact all_showable fun d hd => (h d hd).s, by rw [PyData.hasDict]; exact all_noDict fun d hd => (h d hd).n,
    by rw [PyData.depth]; exact Nat.succ_le_succ (all_depth fun d hd => (h d hd).p)⟩
theorem Shw.more {m n : Nat} {d : PyData} (h : Shw m d) (l : m ≤ n) : Shw n d := ⟨h.s, h.n, Nat.le_trans h.p l⟩
theorem shw_str (z : Str) : Shw 0 (.str z) := ⟨by rw [PyData.showable], by rw [PyData.hasDict], by rw [PyData.depth]; exact Nat.le_refl _⟩
theorem shw_bool (z : Bool) : Shw 0 (.bool z) := ⟨by rw [PyData.showable], by rw [PyData.hasDict], by rw [PyData.depth]; exact Nat.le_refl _⟩
theorem shw_int {i : Int} (h0 : 0 ≤ i) (h1 : i ≤ 1000) : Shw 0 (.int i) := ⟨by
    rw [PyData.showable]
    have q : i.natAbs.log2 < 10 := PySem.Flt.log2_lt_of (by decide) (by omega)
    exact decide_eq_true (by omega), by rw [PyData.hasDict], by rw [PyData.depth]; exact Nat.le_refl _⟩
theorem shw_strs (ws : List Str) : Shw 1 (dStrs ws) := shw_list fun d hd => by
  obtain ⟨z, _, rfl⟩ := List.mem_map.mp hd
  exact shw_str z
theorem shw_kp {k : Kp} (h : KpOk k) : Shw 2 (dKp k) := shw_tup fun d hd => by
  simp only [List.mem_cons, List.not_mem_nil, or_false] at hd
  rcases hd with e | e | e | e <;> rw [e]
  · exact (shw_str _).more (by decide)
  · exact (shw_int (by have := h.r1; omega) (by have := h.r12; omega)).more (by decide)
  · exact (shw_bool _).more (by decide)
  · exact shw_strs _
theorem shw_tm {t : Tm} (h : TmOk t) : Shw 4 (dTm t) := shw_tup fun d hd => by
  simp only [List.mem_cons, List.not_mem_nil, or_false] at hd
  rcases hd with e | e <;> rw [e]
  · exact (shw_int h.l0 (by have := h.l9; omega)).more (by decide)
  · refine shw_list fun d hd => ?_
    obtain ⟨z, hz, rfl⟩ := List.mem_map.mp hd
    exact shw_kp (h.ok z hz)
theorem shw_bd {bd : List Tm} (h : BdOk bd) : Shw 5 (dBd bd) := shw_list fun d hd => by
  obtain ⟨z, hz, rfl⟩ := List.mem_map.mp hd
  exact shw_tm (h.ok z hz)
end My
/-! the text by places -/
namespace My
open PySem PySem.Spec PyProof.Rows L2
def top (i : Nat) : Stmt := PySem.Challenge.pw_dimkeepers_k04_no_such_keeper.main.body.getD i (.Pass ⟨0, 0, 0, 0⟩)
abbrev s_keepers_of : Stmt := top 13
abbrev N_keepers_of : List Str := ["board", "team", "keeper"]
abbrev P_keepers_of : List Str := ["board"]
theorem sc_keepers_of : FnScope N_keepers_of P_keepers_of (defScope s_keepers_of) := ⟨rfl, rfl, rfl, by decide +kernel, rfl, by decide +kernel, by decide +kernel⟩
abbrev s_keeper_called : Stmt := top 14
abbrev N_keeper_called : List Str := ["board", "name", "keeper"]
abbrev P_keeper_called : List Str := ["board", "name"]
theorem sc_keeper_called : FnScope N_keeper_called P_keeper_called (defScope s_keeper_called) := ⟨rfl, rfl, rfl, by decide +kernel, rfl, by decide +kernel, by decide +kernel⟩
abbrev s_eldest : Stmt := top 15
abbrev N_eldest : List Str := ["board", "name", "row"]
abbrev P_eldest : List Str := ["board", "name"]
theorem sc_eldest : FnScope N_eldest P_eldest (defScope s_eldest) := ⟨rfl, rfl, rfl, by decide +kernel, rfl, by decide +kernel, by decide +kernel⟩
abbrev s_bag : Stmt := top 17
abbrev N_bag : List Str := ["script", "seed", "cell"]
abbrev P_bag : List Str := ["script"]
theorem sc_bag : FnScope N_bag P_bag (defScope s_bag) := ⟨rfl, rfl, rfl, by decide +kernel, rfl, by decide +kernel, by decide +kernel⟩
abbrev s_draw : Stmt := top 18
abbrev N_draw : List Str := ["bag", "count", "left"]
abbrev P_draw : List Str := ["bag", "count"]
theorem sc_draw : FnScope N_draw P_draw (defScope s_draw) := ⟨rfl, rfl, rfl, by decide +kernel, rfl, by decide +kernel, by decide +kernel⟩
abbrev s_pool : Stmt := top 19
abbrev N_pool : List Str := ["bag", "count", "letters", "style", "found", "k", "tail", "word", "sign"]
abbrev P_pool : List Str := ["bag", "count"]
theorem sc_pool : FnScope N_pool P_pool (defScope s_pool) := ⟨rfl, rfl, rfl, by decide +kernel, rfl, by decide +kernel, by decide +kernel⟩
abbrev s_keeper : Stmt := top 20
abbrev N_keeper : List Str := ["bag", "name", "some", "room", "whole", "left", "row", "k"]
abbrev P_keeper : List Str := ["bag", "name", "some"]
theorem sc_keeper : FnScope N_keeper P_keeper (defScope s_keeper) := ⟨rfl, rfl, rfl, by decide +kernel, rfl, by decide +kernel, by decide +kernel⟩
abbrev s_board : Stmt := top 21
abbrev N_board : List Str := ["bag", "some", "called", "found", "left", "t", "count", "keepers", "k"]
abbrev P_board : List Str := ["bag"]
theorem sc_board : FnScope N_board P_board (defScope s_board) := ⟨rfl, rfl, rfl, by decide +kernel, rfl, by decide +kernel, by decide +kernel⟩
abbrev s_word : Stmt := top 22
abbrev N_word : List Str := ["board", "name", "caught", "e", "odd", "good"]
abbrev P_word : List Str := ["board", "name"]
theorem sc_word : FnScope N_word P_word (defScope s_word) := ⟨rfl, rfl, rfl, by decide +kernel, rfl, by decide +kernel, by decide +kernel⟩
abbrev s_law : Stmt := top 23
abbrev N_law : List Str := ["script", "bag", "turn", "board", "kept", "there", "some", "least", "keepers", "name", "room", "whole", "row", "one"]
abbrev P_law : List Str := ["script"]
theorem sc_law : FnScope N_law P_law (defScope s_law) := ⟨rfl, rfl, rfl, by decide +kernel, rfl, by decide +kernel, by decide +kernel⟩
structure Ad where
  f_keepers_of : Addr
  d_keepers_of : FuncData
  f_keeper_called : Addr
  d_keeper_called : FuncData
  f_eldest : Addr
  d_eldest : FuncData
  f_bag : Addr
  d_bag : FuncData
  f_draw : Addr
  d_draw : FuncData
  f_pool : Addr
  d_pool : FuncData
  f_keeper : Addr
  d_keeper : FuncData
  f_board : Addr
  d_board : FuncData
  f_word : Addr
  d_word : FuncData
  c_NoKeeper : Addr
  c_NoNumber : Addr
  c_NoOrder : Addr
  c_NoRoom : Addr
  c_NoTeam : Addr
  c_NoTelling : Addr
  c_NoText : Addr
  c_Nothing : Addr
  c_NoThing : Addr
  c_TooMany : Addr
  c_Twice : Addr
structure Txt (K : PySem.W.Frag) (mg : Str → Option Value) (A : Ad) : Prop where
  F_keepers_of : Fun K "keepers_of" "keepers_of" s_keepers_of A.f_keepers_of A.d_keepers_of
  g_keepers_of : mg "keepers_of" = some (.ref A.f_keepers_of)
  b_keepers_of : Binds K A.d_keepers_of P_keepers_of []
  F_keeper_called : Fun K "keeper_called" "keeper_called" s_keeper_called A.f_keeper_called A.d_keeper_called
  g_keeper_called : mg "keeper_called" = some (.ref A.f_keeper_called)
  b_keeper_called : Binds K A.d_keeper_called P_keeper_called []
  F_eldest : Fun K "eldest" "eldest" s_eldest A.f_eldest A.d_eldest
  g_eldest : mg "eldest" = some (.ref A.f_eldest)
  b_eldest : Binds K A.d_eldest P_eldest []
  F_bag : Fun K "_law_bag" "_law_bag" s_bag A.f_bag A.d_bag
  g_bag : mg "_law_bag" = some (.ref A.f_bag)
  b_bag : Binds K A.d_bag P_bag []
  F_draw : Fun K "_law_draw" "_law_draw" s_draw A.f_draw A.d_draw
  g_draw : mg "_law_draw" = some (.ref A.f_draw)
  b_draw : Binds K A.d_draw P_draw []
  F_pool : Fun K "_law_pool" "_law_pool" s_pool A.f_pool A.d_pool
  g_pool : mg "_law_pool" = some (.ref A.f_pool)
  b_pool : Binds K A.d_pool P_pool []
  F_keeper : Fun K "_law_keeper" "_law_keeper" s_keeper A.f_keeper A.d_keeper
  g_keeper : mg "_law_keeper" = some (.ref A.f_keeper)
  b_keeper : Binds K A.d_keeper P_keeper []
  F_board : Fun K "_law_board" "_law_board" s_board A.f_board A.d_board
  g_board : mg "_law_board" = some (.ref A.f_board)
  b_board : Binds K A.d_board P_board []
  F_word : Fun K "_law_word" "_law_word" s_word A.f_word A.d_word
  g_word : mg "_law_word" = some (.ref A.f_word)
  b_word : Binds K A.d_word P_word []
  n_len : mg "len" = none
  n_abs : mg "abs" = none
  n_int : mg "int" = none
  n_list : mg "list" = none
  n_range : mg "range" = none
  n_repr : mg "repr" = none
  n_isinstance : mg "isinstance" = none
  n_LookupError : mg "LookupError" = none
  n_ValueError : mg "ValueError" = none
  g_NoKeeper : mg "NoKeeper" = some (.ref A.c_NoKeeper)
  g_NoNumber : mg "NoNumber" = some (.ref A.c_NoNumber)
  g_NoOrder : mg "NoOrder" = some (.ref A.c_NoOrder)
  g_NoRoom : mg "NoRoom" = some (.ref A.c_NoRoom)
  g_NoTeam : mg "NoTeam" = some (.ref A.c_NoTeam)
  g_NoTelling : mg "NoTelling" = some (.ref A.c_NoTelling)
  g_NoText : mg "NoText" = some (.ref A.c_NoText)
  g_Nothing : mg "Nothing" = some (.ref A.c_Nothing)
  g_NoThing : mg "NoThing" = some (.ref A.c_NoThing)
  g_TooMany : mg "TooMany" = some (.ref A.c_TooMany)
  g_Twice : mg "Twice" = some (.ref A.c_Twice)
  x_NoKeeper : PySem.W.excIn K A.c_NoKeeper [.type "LookupError", .type "Exception", .type "BaseException", .type "object"] "LookupError.__new__" = true
  k_NoKeeper : PySem.W.keepIn K (.ref A.c_NoKeeper) = true
  bx_NoKeeper : PySem.W.subIn K (.ref A.c_NoKeeper) (.type "BaseException") = some true
  tx_NoKeeper : PySem.W.typeIn K (.ref A.c_NoKeeper) = some (.type "type")
  m_NoKeeper : PySem.W.exmOne K (.ref A.c_NoKeeper) (.ref A.c_NoKeeper) = some true
  m_NoThing : PySem.W.exmOne K (.ref A.c_NoKeeper) (.ref A.c_NoThing) = some false
  m_NoTeam : PySem.W.exmOne K (.ref A.c_NoKeeper) (.ref A.c_NoTeam) = some false
  o_NoNumber : PySem.W.kitOne K (.ref A.c_NoKeeper) (.ref A.c_NoNumber) = some false
  o_NoOrder : PySem.W.kitOne K (.ref A.c_NoKeeper) (.ref A.c_NoOrder) = some false
  o_NoRoom : PySem.W.kitOne K (.ref A.c_NoKeeper) (.ref A.c_NoRoom) = some false
  o_NoTeam : PySem.W.kitOne K (.ref A.c_NoKeeper) (.ref A.c_NoTeam) = some false
  o_NoTelling : PySem.W.kitOne K (.ref A.c_NoKeeper) (.ref A.c_NoTelling) = some false
  o_NoText : PySem.W.kitOne K (.ref A.c_NoKeeper) (.ref A.c_NoText) = some false
  o_Nothing : PySem.W.kitOne K (.ref A.c_NoKeeper) (.ref A.c_Nothing) = some false
  o_NoThing : PySem.W.kitOne K (.ref A.c_NoKeeper) (.ref A.c_NoThing) = some false
  o_TooMany : PySem.W.kitOne K (.ref A.c_NoKeeper) (.ref A.c_TooMany) = some false
  o_Twice : PySem.W.kitOne K (.ref A.c_NoKeeper) (.ref A.c_Twice) = some false
  o_LookupError : PySem.W.kitOne K (.ref A.c_NoKeeper) (.type "LookupError") = some true
  o_ValueError : PySem.W.kitOne K (.ref A.c_NoKeeper) (.type "ValueError") = some false
  hg : PySem.W.findIn K (.ref A.c_NoKeeper) "__getattribute__" = some (some (.builtin "BaseException.__getattribute__"))
  hk : PySem.W.findIn K (.ref A.c_NoKeeper) "__getattr__" = some none
  hs : PySem.W.subIn K (.ref A.c_NoKeeper) (.type "BaseException") = some true
  hd : PySem.W.hasDictIn K A.c_NoKeeper = true
  ha : PySem.W.findIn K (.ref A.c_NoKeeper) "__class__" = some (some (.builtin "object.__class__"))
  hn : PySem.W.specialIn K (.builtin "object.__class__") "__get__" = some (some (.builtin "getset_descriptor.__get__"))
  ht : PySem.W.takesIn K (.builtin "object.__class__") = some true
  hm : PySem.W.mroIn K A.c_NoKeeper (.type "object") = some true
end My
namespace My
open PySem PySem.Spec PyProof.Rows L2
theorem draw_mod {x c : Int} (h0 : 0 ≤ x) (h : 0 < c) : 0 ≤ x.fmod c ∧ x.fmod c < c := by
  rw [Int.fmod_eq_emod_of_nonneg x (by omega)]
  exact ⟨Int.emod_nonneg x (by omega), Int.emod_lt_of_pos x h⟩
theorem draw_div {x c : Int} (h0 : 0 ≤ x) (h : 0 < c) : 0 ≤ x.fdiv c := by
  rw [Int.fdiv_eq_ediv_of_nonneg x (by omega)]
  exact Int.ediv_nonneg h0 (by omega)
section
variable {P : Program} {w : World} {K : PySem.W.Frag} {mg : Str → Option Value} {base : Heap} {A : Ad}
theorem ok_draw (T : Txt K mg A) : FnOk P w K mg base CX0 1 A.f_draw A.d_draw P_draw spDraw := by
  refine T.F_draw.ok sc_draw (fun vs H Q E h => ?_) (fun cdv A' outer s H vs Q E hr h => ?_)
  · obtain ⟨b, l, c, rfl, _⟩ := h
    rfl
  · obtain ⟨b, l, c, rfl, B, c0, c1, k⟩ := h
    refine ⟨_, (pss_cons (ps_while PassesOwn.never (PW.pt (pw_and (pt_cmpR op_lt (pe_ix (ix_listK (K := K) rfl) (pv 0) pe_int (fun _ _ => rfl)) (pe_callB (len_seqK (K := K) rfl) (by rfl) T.n_len PySem.boot_len (pa_cons (pe_ix (ix_listK (K := K) rfl) (pv 0) pe_int (fun _ _ => rfl)) pa_nil)) (nomark _)) (pw_and1 (pt_cmpR op_eq (pe_ix (ix_listK (K := K) rfl) (pe_ix (ix_listK (K := K) rfl) (pv 0) pe_int (fun _ _ => rfl)) (pe_ix (ix_listK (K := K) rfl) (pv 0) pe_int (fun _ _ => rfl)) (fun _ _ => rfl)) pe_int (nomark _)))))
      (pss_one (ps_asg (pe_op op_add (pe_ix (ix_listK (K := K) rfl) (pv 0) pe_int (fun _ _ => rfl)) pe_int) (pg_sub (pv 0) pe_int set_list))))
    (pss_cons (ps_if (pt_cmpR op_lt (pe_ix (ix_listK (K := K) rfl) (pv 0) pe_int (fun _ _ => rfl)) (pe_callB (len_seqK (K := K) rfl) (by rfl) T.n_len PySem.boot_len (pa_cons (pe_ix (ix_listK (K := K) rfl) (pv 0) pe_int (fun _ _ => rfl)) pa_nil)) (nomark _))
      (pss_cons (ps_set (i := 2) sc_draw.nd rfl (Or.inl rfl) (pe_ix (ix_listK (K := K) rfl) (pe_ix (ix_listK (K := K) rfl) (pv 0) pe_int (fun _ _ => rfl)) (pe_ix (ix_listK (K := K) rfl) (pv 0) pe_int (fun _ _ => rfl)) (fun _ _ => rfl)))
      (pss_cons (ps_asg (pe_op op_fdivN (pv 2) (pv 1)) (pg_sub (pe_ix (ix_listK (K := K) rfl) (pv 0) pe_int (fun _ _ => rfl)) (pe_ix (ix_listK (K := K) rfl) (pv 0) pe_int (fun _ _ => rfl)) set_list))
      (pss_one (ps_ret (pe_op op_modN (pv 2) (pv 1))))))
      pss_nil)
    (pss_cons (ps_asg (pe_op op_add (pe_ix (ix_listK (K := K) rfl) (pv 0) pe_int (fun _ _ => rfl)) pe_int) (pg_sub (pv 0) pe_int set_list))
    (pss_cons (ps_asg (pe_op op_modN (pe_op op_add (pe_op op_add (pe_op op_add (pe_op op_powW (pe_ix (ix_listK (K := K) rfl) (pv 0) pe_int (fun _ _ => rfl)) pe_int) (pe_op op_mul pe_int (pe_ix (ix_listK (K := K) rfl) (pv 0) pe_int (fun _ _ => rfl)))) (pe_op op_mul pe_int (pe_ix (ix_listK (K := K) rfl) (pv 0) pe_int (fun _ _ => rfl)))) pe_int) (pe_op op_sub (pe_op op_powW pe_int pe_int) pe_int)) (pg_sub (pv 0) pe_int set_list))
    (pss_one (ps_ret (pe_op op_modN (pe_op op_fdivN (pe_ix (ix_listK (K := K) rfl) (pv 0) pe_int (fun _ _ => rfl)) pe_int) (pv 1)))))))), ?_⟩
    obtain ⟨⟨i0, m, n, hb, m0, m1⟩, ⟨xs, hl, hx⟩, ne⟩ := B
    refine ⟨fun j σ H1 => ∃ i : Nat, j = xs.length - i ∧ σ = [some (.ref b), some (.int c), none] ∧
      H1 b = some (.lst [.ref l, .int i, .int m, .int n]) ∧ H1 l = some (.lst (xs.map V.int)) ∧ Ext b l H H1,
      ⟨_, i0, rfl, rfl, hb, hl, Ext.refl _ _ _⟩, ?_⟩
    rintro j σ H1 ⟨i, rfl, rfl, hb1, hl1, x1⟩
    -- bag[1] < len(bag[0])
    refine ⟨_, rfl, _, _, _, _, rfl, rfl, SqL.of hb1, rfl, _, rfl, _, _, _, _, rfl, rfl, SqL.of hb1, rfl, l, _, rfl, .inl (SqL.of hl1), _, _, rfl, rfl, _, rfl, ?_⟩
    have li : (xs.map V.int).length = xs.length := List.length_map _
    by_cases lt : i < xs.length
    · obtain ⟨x, hxi⟩ : ∃ x, xs[i]? = some x := ⟨xs[i], List.getElem?_eq_getElem lt⟩
      have x0 : 0 ≤ x := hx x (List.mem_of_getElem? hxi)
      have it : (xs.map V.int)[i]? = some (V.int x) := map_at hxi
      rw [decide_eq_true (show (i : Int) < ((xs.map V.int).length : Nat) by rw [li]; omega)]
      refine iteT ?_
      refine ⟨_, rfl, _, _, _, _, rfl, rfl, SqL.of hb1, rfl, _, rfl, _, _, _, _, rfl, rfl, SqL.of hb1, rfl, l, _, _, _, rfl, rfl, SqL.of hl1, atI_nat it, rfl, _, rfl, ?_⟩
      by_cases z : x = 0
      · subst z
        refine iteT ?_
        refine ⟨fun σ2 H2 => σ2 = [some (.ref b), some (.int c), none] ∧ H2 b = some (.lst [.ref l, .int ((i + 1 : Nat) : Int), .int m, .int n]) ∧ H2 l = some (.lst (xs.map V.int)) ∧ Ext b l H H2, ?_, ?_⟩
        · rintro σ2 H2 ⟨e, h2, h3, h4⟩
          exact ⟨_, by omega, i + 1, rfl, e, h2, h3, h4⟩
        · refine ⟨_, rfl, _, _, _, _, rfl, rfl, SqL.of hb1, rfl, _, _, rfl, rfl, _, rfl, _, _, _, _, rfl, rfl, hb1, rfl, ?_⟩
          exact ⟨rfl, upd_same, by rw [upd_ne ne.symm]; exact hl1, x1.trans Ext.at_b⟩
      · have z' : decide (V.int x = V.int 0) = false := decide_eq_false fun e => z (V.int.inj e)
        rw [z']
        refine iteF ?_
        -- a digit
        refine ⟨_, rfl, _, _, _, _, rfl, rfl, SqL.of hb1, rfl, _, rfl, _, _, _, _, rfl, rfl, SqL.of hb1, rfl, l, _, rfl, .inl (SqL.of hl1), _, _, rfl, rfl, _, rfl, ?_⟩
        rw [decide_eq_true (show (i : Int) < ((xs.map V.int).length : Nat) by rw [li]; omega)]
        refine iteT ?_
        refine ⟨_, rfl, _, _, _, _, rfl, rfl, SqL.of hb1, rfl, _, rfl, _, _, _, _, rfl, rfl, SqL.of hb1, rfl, l, _, _, _, rfl, rfl, SqL.of hl1, atI_nat it, ?_⟩
        refine ⟨_, rfl, _, rfl, x, c, rfl, rfl, ⟨by omega, by omega⟩, ?_⟩
        refine ⟨_, rfl, _, _, _, _, rfl, rfl, SqL.of hb1, rfl, _, rfl, _, _, _, _, rfl, rfl, SqL.of hb1, rfl, l, _, (i : Int), i, rfl, rfl, hl1, by unfold ixN; rw [li]; simp; omega, ?_⟩
        refine ⟨_, rfl, _, rfl, x, c, rfl, rfl, by omega, ?_⟩
        obtain ⟨r0, r1⟩ := draw_mod x0 c0
        refine k _ _ r0 r1 ⟨⟨i, m, n, by rw [upd_ne ne]; exact hb1, m0, m1⟩, ⟨xs.set i (x.fdiv c), ?_, ?_⟩, ne⟩ (x1.trans Ext.at_l)
        · rw [upd_same, List.map_set]
        · intro y hy
          rcases List.mem_or_eq_of_mem_set hy with hy | hy
          · exact hx y hy
          · rw [hy]
            exact draw_div x0 c0
    · rw [decide_eq_false (show ¬ (i : Int) < ((xs.map V.int).length : Nat) by rw [li]; omega)]
      refine iteF ?_
      refine iteF ?_
      -- stirred
      refine ⟨_, rfl, _, _, _, _, rfl, rfl, SqL.of hb1, rfl, _, rfl, _, _, _, _, rfl, rfl, SqL.of hb1, rfl, l, _, rfl, .inl (SqL.of hl1), _, _, rfl, rfl, _, rfl, ?_⟩
      rw [decide_eq_false (show ¬ (i : Int) < ((xs.map V.int).length : Nat) by rw [li]; omega)]
      refine iteF ?_
      refine ⟨_, rfl, _, _, _, _, rfl, rfl, SqL.of hb1, rfl, _, _, rfl, rfl, _, rfl, _, _, _, _, rfl, rfl, hb1, rfl, ?_⟩
      have hb2 : (upd H1 b (.lst ([V.ref l, .int i, .int m, .int n].set 3 (.int (n + 1))))) b = some (.lst [V.ref l, .int i, .int m, .int (n + 1)]) := upd_same
      have ms : (Builtin.Int.intBits m : Int) * 3 ≤ 2 ^ 27 := by
        have q : Builtin.Int.intBits m ≤ 64 := by
          unfold Builtin.Int.intBits
          split
          · decide
          · have z : m.natAbs.log2 < 64 := PySem.Flt.log2_lt_of (by decide) (by omega)
            omega
        omega
      refine ⟨_, rfl, _, _, _, _, rfl, rfl, SqL.of hb2, rfl, m, 3, rfl, rfl, ⟨by decide, ms⟩, ?_⟩
      refine ⟨_, rfl, _, _, _, _, rfl, rfl, SqL.of hb2, rfl, _, m, rfl, rfl, .inl ⟨by decide, by decide⟩, _, _, rfl, rfl, ?_⟩
      refine ⟨_, rfl, _, _, _, _, rfl, rfl, SqL.of hb2, rfl, _, _, rfl, rfl, .inl ⟨by decide, by decide⟩, _, _, rfl, rfl, ?_⟩
      refine ⟨_, _, rfl, rfl, 2, 61, rfl, rfl, ⟨by decide, by decide⟩, _, _, rfl, rfl, _, _, rfl, rfl, (show (2 : Int) ^ (61 : Int).toNat - 1 ≠ 0 by decide), ?_⟩
      refine ⟨_, rfl, _, _, _, _, rfl, rfl, hb2, rfl, ?_⟩
      have hb3 : ∀ v, (upd (upd H1 b (.lst ([V.ref l, .int i, .int m, .int n].set 3 (.int (n + 1))))) b (.lst ([V.ref l, .int i, .int m, .int (n + 1)].set 2 v))) b = some (.lst [V.ref l, .int i, v, .int (n + 1)]) := fun v => upd_same
      refine ⟨_, rfl, _, _, _, _, rfl, rfl, SqL.of (hb3 _), rfl, _, _, rfl, rfl, ⟨by decide, by decide⟩, _, rfl, _, c, rfl, rfl, by omega, ?_⟩
      have big : (2 : Int) ^ (61 : Int).toNat - 1 = 2305843009213693951 := by decide
      have s0 : ∀ z : Int, 0 ≤ z.fmod ((2 : Int) ^ (61 : Int).toNat - 1) ∧ z.fmod ((2 : Int) ^ (61 : Int).toNat - 1) < 2305843009213693951 := fun z => by
        rw [big, Int.fmod_eq_emod_of_nonneg z (by decide)]
        exact ⟨Int.emod_nonneg z (by decide), Int.emod_lt_of_pos z (by decide)⟩
      obtain ⟨q0, q1⟩ := s0 (m ^ (3 : Int).toNat + 48271 * m + 2039 * (n + 1) + 7)
      obtain ⟨r0, r1⟩ := draw_mod (draw_div q0 (show (0 : Int) < 1024 by decide)) c0
      refine k _ _ r0 r1 ⟨⟨i, _, n + 1, hb3 _, q0, q1⟩, ⟨xs, ?_, hx⟩, ne⟩ ((x1.trans Ext.at_b).trans Ext.at_b)
      rw [upd_ne ne.symm, upd_ne ne.symm]
      exact hl1
end
end My
namespace My
open PySem PySem.Spec PyProof.Rows L2
section
variable {P : Program} {w : World} {K : PySem.W.Frag} {mg : Str → Option Value} {base : Heap} {A : Ad}
theorem ok_bag (T : Txt K mg A) : FnOk P w K mg base CX0 1 A.f_bag A.d_bag P_bag (spBag K) := by
  refine T.F_bag.ok sc_bag (fun vs H Q E h => ?_) (fun cdv A' outer s H vs Q E hr h => ?_)
  · obtain ⟨a, ns, rfl, _⟩ := h
    rfl
  · obtain ⟨a, ns, rfl, hS, n63, k⟩ := h
    refine ⟨_, (pss_cons (ps_set (i := 1) sc_bag.nd rfl (Or.inl rfl) pe_int)
    (pss_cons (ps_for PassesOwn.never rfl (pi_listK (K := K) rfl (pe_slice (sl_listK (K := K) rfl) (pv 0) po_none (po_some pe_int))) (pg_name (i := 2) sc_bag.nd rfl (Or.inl rfl))
      (pss_one (ps_set (i := 1) sc_bag.nd rfl (Or.inl rfl) (pe_op op_modN (pe_op op_add (pe_op op_add (pe_op op_mul (pv 1) pe_int) (pe_op op_modN (pv 2) pe_int)) pe_int) (pe_op op_sub (pe_op op_powW pe_int pe_int) pe_int)))))
    (pss_one (ps_ret (pe_lst (pa_cons (pe_lc (own := [("cell", 2)]) (tt := tYes) (g := (gName 2)) rfl sc_bag.nd (pi_listK (K := K) rfl (pe_slice (sl_listK (K := K) rfl) (pv 0) po_none (po_some pe_int))) (blkOk_by (own := [("cell", 2)]) (N := N_bag) (sc := defScope s_bag) (by decide +kernel)) (fun _ _ _ _ _ => (pg_name (i := 2) sc_bag.nd rfl (Or.inl rfl))) (fun _ _ _ _ _ => pts_nil) (fun _ _ _ _ _ => by exact (pe_op op_modN (pe_callB call_abs (by rfl) T.n_abs (by decide +kernel) (pa_cons (pv 2) pa_nil)) (pe_op op_powW (pe_op op_powW pe_int pe_int) pe_int)))) (pa_cons pe_int (pa_cons (pv 1) (pa_cons pe_int pa_nil))))))))), ?_⟩
    obtain ⟨ys, ey, yl, _⟩ := cut_map (f := V.int) (xs := ns) (lo := none) (hi := some 60)
    -- for cell in script[:60]
    refine ⟨_, rfl, _, rfl, a, _, rfl, hS, fun p np => ?_⟩
    rw [ey]
    have s0 : Same H (upd H p (.lst (ys.map V.int))) := same_new np
    refine ⟨p, rfl, ⟨_, SqL.of upd_same⟩, for_list (K := K) (a := p) (xs := ys.map V.int) (fun i σ H' => H' = upd H p (.lst (ys.map V.int)) ∧ ∃ (m : Int) (v : Option V), σ = [some (.ref a), some (.int m), v] ∧ 0 ≤ m ∧ m < 2305843009213693951)
      ⟨rfl, 29, none, rfl, by decide, by decide⟩ (fun i σ H' _ z => by rw [z.1]; exact SqL.of upd_same) ?_ ?_⟩
    · rintro i y σ H' hi ⟨rfl, m, v, rfl, m0, m1⟩
      obtain ⟨z, hz, rfl⟩ := item_int hi
      have big : (2 : Int) ^ (61 : Int).toNat - 1 = 2305843009213693951 := by decide
      refine ⟨_, rfl, m, _, rfl, rfl, .inr ⟨by decide, by decide⟩, _, rfl, z, _, rfl, rfl, (show (2305843009213693921 : Int) ≠ 0 by decide), _, _, rfl, rfl, _, _, rfl, rfl, 2, 61, rfl, rfl, ⟨by decide, by decide⟩, _, _, rfl, rfl, _, _, rfl, rfl, (show (2 : Int) ^ (61 : Int).toNat - 1 ≠ 0 by decide), ?_⟩
      refine ⟨rfl, _, _, rfl, ?_, ?_⟩
      · rw [big, Int.fmod_eq_emod_of_nonneg _ (by decide)]
        exact Int.emod_nonneg _ (by decide)
      · rw [big, Int.fmod_eq_emod_of_nonneg _ (by decide)]
        exact Int.emod_lt_of_pos _ (by decide)
    · rintro σ H' ⟨rfl, m, v, rfl, m0, m1⟩
      -- [[..], 0, seed, 0]
      refine ⟨_, rfl, _, rfl, a, _, rfl, s0.seq hS, fun p2 np2 => ?_⟩
      rw [ey]
      have s1 := s0.trans (same_new (o := .lst (ys.map V.int)) np2)
      refine ⟨p2, rfl, ⟨_, SqL.of upd_same⟩, fun l nl => ?_⟩
      have l0 : H l = none := (s1.trans (Same.refl _)).free nl
      have nlp2 : p2 ≠ l := ne_of_none upd_same nl
      refine lc_list (K := K) (a := p2) (xs := ys.map V.int) (fun i H' => H' p2 = some (.lst (ys.map V.int)) ∧ Same H H' ∧ ∃ xs : List Int, H' l = some (.lst (xs.map V.int)) ∧ xs.length = i ∧ ∀ x ∈ xs, 0 ≤ x)
        ⟨by rw [upd_ne nlp2]; exact upd_same, same_over s1 l0, [], upd_same, rfl, by simp⟩ (fun i H' _ z => SqL.of z.1) ?_ ?_
      · rintro i y H' hi ⟨hp2, sm, xs, hl, en, hx⟩
        obtain ⟨z, hz, rfl⟩ := item_int hi
        have il := (List.getElem?_eq_some_iff.mp hz).1
        have ten : (10 : Int) ^ (60 : Int).toNat = 10 ^ 60 := rfl
        have fit : PowFit ((10 : Int) ^ (60 : Int).toNat) 10 := ⟨by decide, by decide +kernel⟩
        have ne0 : ((10 : Int) ^ (60 : Int).toNat) ^ (10 : Int).toNat ≠ 0 := by decide +kernel
        refine ⟨rfl, ?_⟩
        refine ⟨_, rfl, z, rfl, 10, 60, rfl, rfl, ⟨by decide, by decide⟩, _, 10, rfl, rfl, fit, _, _, rfl, rfl, ne0, ?_⟩
        refine ⟨_, hl, by rw [List.length_map, en]; exact lt_size il (by omega), by rw [upd_ne nlp2]; exact hp2, same_over sm l0, xs ++ [(if z < 0 then -z else z).fmod (((10 : Int) ^ (60 : Int).toNat) ^ (10 : Int).toNat)], ?_, by rw [List.length_append, en]; rfl, ?_⟩
        · rw [upd_same, List.map_append]
          rfl
        · intro x h
          rcases List.mem_append.mp h with h | h
          · exact hx x h
          · cases List.mem_singleton.mp h
            rw [Int.fmod_eq_emod_of_nonneg _ (by decide +kernel)]
            exact Int.emod_nonneg _ ne0
      · rintro H' ⟨hp2, sm, xs, hl, en, hx⟩
        refine ⟨_, rfl, (show 4 ≤ sizeLine by decide), fun b nb => ?_⟩
        refine k b l _ (sm.free nb) l0 ⟨⟨0, m, 0, upd_same, m0, m1⟩, ⟨xs, by rw [upd_ne (ne_of_none hl nb)]; exact hl, hx⟩, (ne_of_none hl nb).symm⟩ (same_over sm (sm.free nb))
end
end My
namespace My
open PySem PySem.Spec PyProof.Rows L2
def abc : Str := "abcdefghijklmnopqrstuvwxyz"
theorem abc_at {z : Int} (h0 : 0 ≤ z) (h1 : z < 26) : ∃ c, atI abc.cps.toList z = some c ∧ c < 128 := by
  obtain ⟨n, rfl⟩ := Int.eq_ofNat_of_zero_le h0
  have l : abc.cps.toList.length = 26 := by decide +kernel
  have ln : n < abc.cps.toList.length := by rw [l]; omega
  have all : ∀ c ∈ abc.cps.toList, c < 128 := by decide +kernel
  exact ⟨_, atI_nat (List.getElem?_eq_getElem ln), all _ (List.getElem_mem ln)⟩
theorem pick3 {a b c : V} {st : Int} (h0 : 0 ≤ st) (h1 : st < 3) (R : V → Prop) (ha : R a) (hb : R b) (hc : R c) : ∃ v, atI [a, b, c] st = some v ∧ R v := by
  obtain e | e | e : st = 0 ∨ st = 1 ∨ st = 2 := by omega
  · subst e
    exact ⟨a, rfl, ha⟩
  · subst e
    exact ⟨b, rfl, hb⟩
  · subst e
    exact ⟨c, rfl, hc⟩
section
variable {P : Program} {w : World} {K : PySem.W.Frag} {mg : Str → Option Value} {base : Heap} {A : Ad}
theorem ok_pool (T : Txt K mg A) : FnOk P w K mg base CX0 2 A.f_pool A.d_pool P_pool spPool := by
  refine T.F_pool.ok sc_pool (fun vs H Q E h => ?_) (fun cdv A' outer s H vs Q E hr h => ?_)
  · obtain ⟨b, l, c, rfl, _⟩ := h
    rfl
  · obtain ⟨b, l, c, rfl, B, c0, c1, k⟩ := h
    refine ⟨_, (pss_cons (ps_set (i := 2) sc_pool.nd rfl (Or.inr rfl) pe_str)
    (pss_cons (ps_set (i := 3) sc_pool.nd rfl (Or.inl rfl) (pe_call (ok_draw T) (hr.mono (by decide)) rfl T.g_draw T.F_draw.kp T.b_draw .nil pass0 (pa_cons (pv 0) (pa_cons pe_int pa_nil))))
    (pss_cons (ps_set (i := 4) sc_pool.nd rfl (Or.inl rfl) (pe_lst pa_nil))
    (pss_cons (ps_for PassesOwn.never rfl (pi_range1 (by rfl) T.n_range (pa_cons (pv 1) pa_nil)) (pg_name (i := 5) sc_pool.nd rfl (Or.inl rfl))
      (pss_cons (ps_set (i := 6) sc_pool.nd rfl (Or.inl rfl) (pe_op op_add_str (pe_ix ix_str (pv 2) (pe_op op_fdivN (pv 5) pe_int) (fun _ _ => rfl)) (pe_ix ix_str (pv 2) (pe_op op_modN (pv 5) pe_int) (fun _ _ => rfl))))
      (pss_cons (ps_set (i := 7) sc_pool.nd rfl (Or.inl rfl) (pe_join pe_str (pe_lc (own := [("sign", 8)]) (tt := tYes) (g := (gName 8)) rfl sc_pool.nd (pi_range1 (by rfl) T.n_range (pa_cons (pe_op op_mul (pe_call (ok_draw T) (hr.mono (by decide)) rfl T.g_draw T.F_draw.kp T.b_draw .nil pass0 (pa_cons (pv 0) (pa_cons pe_int pa_nil))) (pe_callTy call_int1 (by rfl) T.n_int (by decide +kernel) (pa_cons (pe_cmpR op_eq (pv 3) pe_int (nomark _)) pa_nil))) pa_nil)) (blkOk_by (own := [("sign", 8)]) (N := N_pool) (sc := defScope s_pool) (by decide +kernel)) (fun _ _ _ _ _ => (pg_name (i := 8) sc_pool.nd rfl (Or.inl rfl))) (fun _ _ _ _ _ => pts_nil) (fun _ _ _ _ _ => by exact (pe_ix ix_str (pv 2) (pe_call (ok_draw T) (hr.mono (by decide)) rfl T.g_draw T.F_draw.kp T.b_draw .nil pass0 (pa_cons (pv 0) (pa_cons pe_int pa_nil))) (fun _ _ => rfl))))))
      (pss_one (ps_expr (pe_K (K := K) rfl (pe_bm PySem.F.plainAttrs_list PySem.F.slot_list_append PySem.F.type_list_append mt_append (by exact (pv 4)) (by exact (pa_cons (pe_ix (ix_listK (K := K) rfl) (pe_lst (pa_cons (pe_ifExp (pt_cmpR op_lt (pv 1) pe_int (nomark _)) (pe_ix ix_str (pv 2) (pe_op op_modN (pv 5) pe_int) (fun _ _ => rfl)) (pv 6)) (pa_cons (pe_op op_add_str pe_str (pv 6)) (pa_cons (pe_op op_add_str (pv 6) (pv 7)) pa_nil)))) (pv 3) (fun _ _ => rfl)) pa_nil)))))))))
    (pss_one (ps_ret (pv 4))))))), ?_⟩
    -- letters; style; found
    refine ⟨_, rfl, b, l, 3, rfl, B, by decide, by decide, fun st H1 s0 s1 B1 x1 => ?_⟩
    refine ⟨(show 0 ≤ sizeLine by decide), fun p np => ?_⟩
    have pb := B1.nb np
    have pl := B1.nl np
    have np0 : H p = none := by
      cases q : H p with
      | none => rfl
      | some o =>
        have z := x1.get q pb pl
        rw [np] at z
        cases z
    refine ⟨_, rfl, c, rfl, by omega, by omega, for_range (lo := 0) (n := c.toNat) (fun i σ H' => ∃ v5 v6 v7 v8, σ = [some (.ref b), some (.int c), some (.str abc), some (.int st), some (.ref p), v5, v6, v7, v8] ∧
      Bag H' b l ∧ Ext b l H H' ∧ ∃ ws : List Str, H' p = some (.lst (ws.map V.str)) ∧ ws.length = i ∧ W8 ws)
      ⟨none, none, none, none, rfl, B1.put pb pl, x1.over np0, [], upd_same, rfl, w8_nil⟩ ?_ ?_⟩
    · rintro i σ H2 hi ⟨v5, v6, v7, v8, rfl, B2, x2, ws, h2, wl, w8⟩
      have hi' : (i : Int) < c := by omega
      obtain ⟨q1, e1, lo1⟩ := abc_at (z := (0 + (i : Int)).fdiv 26) (draw_div (by omega) (by decide)) (by
        rw [Int.fdiv_eq_ediv_of_nonneg _ (by decide)]
        omega)
      obtain ⟨q2, e2, lo2⟩ := abc_at (z := (0 + (i : Int)).fmod 26) (draw_mod (by omega) (by decide)).1 (draw_mod (by omega) (by decide)).2
      have lz : abc.length ≤ sizeLine := by decide +kernel
      -- tail
      refine ⟨_, rfl, _, rfl, _, _, rfl, rfl, ⟨by decide, by decide⟩, abc, _, q1, rfl, rfl, lz, e1, _, rfl, _, rfl, _, _, rfl, rfl, (show (26 : Int) ≠ 0 by decide), abc, _, q2, rfl, rfl, lz, e2, _, _, rfl, rfl, (show 2 ≤ sizeLine by decide), ?_⟩
      -- word
      refine ⟨⟨_, rfl⟩, _, rfl, b, l, 7, rfl, B2, by decide, by decide, fun r H3 r0 r1 B3 x3 => ?_⟩
      refine ⟨_, rfl, rfl, .inr ⟨_, rfl, r, _, rfl, rfl, .inl ⟨by omega, by omega⟩, ?_⟩⟩
      obtain ⟨n, en⟩ : ∃ n, n = r * (if decide (V.int st = V.int 2) = true then (1 : Int) else 0) := ⟨_, rfl⟩
      have n0 : 0 ≤ n ∧ n ≤ 6 := by
        rw [en]
        split <;> omega
      refine ⟨n, by rw [en], by omega, by omega, fun D nD => ?_⟩
      have Db := B3.nb nD
      have Dl := B3.nl nD
      have h3 : H3 p = some (.lst (ws.map V.str)) := x3.get h2 pb pl
      have Dp : p ≠ D := ne_of_none h3 nD
      have nD0 : H D = none := by
        cases q : H D with
        | none => rfl
        | some o =>
          have z := (x2.trans x3).get q Db Dl
          rw [nD] at z
          cases z
      refine lc_range (lo := 0) (n := n.toNat) (fun j H' => Bag H' b l ∧ Ext b l H H' ∧ H' p = some (.lst (ws.map V.str)) ∧ ∃ cs : List Str, H' D = some (.lst (cs.map V.str)) ∧ cs.length = j ∧ (∀ z ∈ cs, z.length = 1) ∧ ∀ z ∈ cs, Lo z)
        ⟨B3.put Db Dl, (x2.trans x3).over nD0, by rw [upd_ne Dp]; exact h3, [], upd_same, rfl, (by intro z h; cases h), by intro z h; cases h⟩ ?_ ?_
      · rintro j H4 hj ⟨B4, x4, h4, cs, hD, cl, c1', cL⟩
        refine ⟨rfl, ?_⟩
        refine ⟨_, rfl, _, rfl, b, l, 26, rfl, B4, by decide, by decide, fun r' H5 t0 t1 B5 x5 => ?_⟩
        obtain ⟨q3, e3, lo3⟩ := abc_at t0 t1
        refine ⟨abc, _, q3, rfl, rfl, lz, e3, _, x5.get hD Db Dl, by rw [List.length_map]; exact lt_size (m := 7) (by omega) (by decide), ?_⟩
        refine ⟨B5.put Db Dl, (x4.trans x5).over nD0, by rw [upd_ne Dp]; exact x5.get h4 pb pl, cs ++ [⟨#[q3]⟩], ?_, by rw [List.length_append, cl]; rfl, ?_, ?_⟩
        · rw [upd_same, List.map_append]
          rfl
        · intro z hz
          rcases List.mem_append.mp hz with q | q
          · exact c1' z q
          · cases List.mem_singleton.mp q
            rfl
        · intro z hz
          rcases List.mem_append.mp hz with q | q
          · exact cL z q
          · cases List.mem_singleton.mp q
            exact lo_one lo3
      · rintro H4 ⟨B4, x4, h4, cs, hD, cl, c1', cL⟩
        have jl := join0 cs c1'
        refine ⟨_, D, cs, rfl, rfl, .inl (SqL.of hD), ?_, ?_⟩
        · rw [sum_ones cs c1']
          have e : (("" : String) : Str).length = 0 := rfl
          rw [e]
          omega
        -- found.append([..][style])
        refine ⟨_, rfl, .inl ⟨rfl, _, SqL.of h4⟩, ?_⟩
        have tj : (Txt.join "" cs).length = cs.length := by
          rw [TL.join_eq]
          exact jl
        have tail2 : ((⟨#[q1]⟩ ++ ⟨#[q2]⟩ : Str)).length = 2 := rfl
        have six : ("mnopqr" : Str).length = 6 := by decide +kernel
        have sz : ∀ n : Nat, n ≤ 1000 → n ≤ sizeLine := fun n h => Nat.le_of_lt (small1000 h)
        have loT : Lo (⟨#[q1]⟩ ++ ⟨#[q2]⟩) := (lo_one lo1).app (lo_one lo2)
        have loM : Lo ("mnopqr" : Str) := by unfold Lo; decide +kernel
        have loJ : Lo (Txt.join "" cs) := by rw [TL.join_eq]; exact lo_join cs cL
        have z1 : Ok8 (("mnopqr" : Str) ++ (⟨#[q1]⟩ ++ ⟨#[q2]⟩)) := ⟨by rw [str_add, six, tail2]; decide, loM.app loT⟩
        have z2 : Ok8 ((⟨#[q1]⟩ ++ ⟨#[q2]⟩ : Str) ++ Txt.join "" cs) := ⟨by rw [str_add, tail2, tj]; omega, loT.app loJ⟩
        have wsz : ws.length < 97 := by omega
        refine ⟨_, rfl, _, _, rfl, rfl, _, rfl, ite2 (fun _ => ?_) (fun _ => ?_)⟩
        · refine ⟨_, rfl, _, rfl, _, _, rfl, rfl, (show (26 : Int) ≠ 0 by decide), abc, _, q2, rfl, rfl, lz, e2, ?_⟩
          obtain ⟨v, ev, z, zv, z8⟩ := pick3 (a := .str ⟨#[q2]⟩) (b := .str (("mnopqr" : Str) ++ (⟨#[q1]⟩ ++ ⟨#[q2]⟩))) (c := .str ((⟨#[q1]⟩ ++ ⟨#[q2]⟩ : Str) ++ Txt.join "" cs)) s0 s1 (fun v => ∃ z, v = V.str z ∧ Ok8 z) ⟨_, rfl, ⟨(by decide : 1 ≤ 8), lo_one lo2⟩⟩ ⟨_, rfl, z1⟩ ⟨_, rfl, z2⟩
          subst zv
          refine ⟨_, rfl, _, _, rfl, rfl, (by rw [six, tail2]; exact sz _ (by decide)), _, rfl, _, rfl, _, _, rfl, rfl, (by rw [tail2, tj]; exact sz _ (by omega)), (show 3 ≤ sizeLine by decide), fun q nq => ?_⟩
          have pq : p ≠ q := ne_of_none h4 nq
          refine ⟨_, rfl, q, _, _, _, rfl, rfl, SqL.of upd_same, ev, ?_⟩
          refine ⟨p, _, _, rfl, rfl, by rw [upd_ne pq]; exact h4, by rw [List.length_map]; exact lt_size wsz (by decide), ?_⟩
          refine ⟨_, _, _, _, rfl, (B4.put (B4.nb nq) (B4.nl nq)).put pb pl, ((x4.trans (Ext.of_same (same_new nq))).over np0), ws ++ [z], ?_, by rw [List.length_append, wl]; rfl, w8.snoc z8⟩
          rw [upd_same, List.map_append]
          rfl
        · refine ⟨_, rfl, ?_⟩
          obtain ⟨v, ev, z, zv, z8⟩ := pick3 (a := .str (⟨#[q1]⟩ ++ ⟨#[q2]⟩)) (b := .str (("mnopqr" : Str) ++ (⟨#[q1]⟩ ++ ⟨#[q2]⟩))) (c := .str ((⟨#[q1]⟩ ++ ⟨#[q2]⟩ : Str) ++ Txt.join "" cs)) s0 s1 (fun v => ∃ z, v = V.str z ∧ Ok8 z) ⟨_, rfl, ⟨(by rw [tail2]; decide), loT⟩⟩ ⟨_, rfl, z1⟩ ⟨_, rfl, z2⟩
          subst zv
          refine ⟨_, rfl, _, _, rfl, rfl, (by rw [six, tail2]; exact sz _ (by decide)), _, rfl, _, rfl, _, _, rfl, rfl, (by rw [tail2, tj]; exact sz _ (by omega)), (show 3 ≤ sizeLine by decide), fun q nq => ?_⟩
          have pq : p ≠ q := ne_of_none h4 nq
          refine ⟨_, rfl, q, _, _, _, rfl, rfl, SqL.of upd_same, ev, ?_⟩
          refine ⟨p, _, _, rfl, rfl, by rw [upd_ne pq]; exact h4, by rw [List.length_map]; exact lt_size wsz (by decide), ?_⟩
          refine ⟨_, _, _, _, rfl, (B4.put (B4.nb nq) (B4.nl nq)).put pb pl, ((x4.trans (Ext.of_same (same_new nq))).over np0), ws ++ [z], ?_, by rw [List.length_append, wl]; rfl, w8.snoc z8⟩
          rw [upd_same, List.map_append]
          rfl
    · rintro σ H2 ⟨v5, v6, v7, v8, rfl, B2, x2, ws, h2, wl, w8⟩
      exact ⟨_, rfl, k p ws H2 np0 pb pl (by omega) w8 h2 B2 x2⟩
end
end My
namespace My
open PySem PySem.Spec PyProof.Rows L2
section
variable {P : Program} {w : World} {K : PySem.W.Frag} {mg : Str → Option Value} {base : Heap} {A : Ad}
theorem ok_keeper (T : Txt K mg A) : FnOk P w K mg base CX0 2 A.f_keeper A.d_keeper P_keeper spKeeper := by
  refine T.F_keeper.ok sc_keeper (fun vs H Q E h => ?_) (fun cdv A' outer s H vs Q E hr h => ?_)
  · obtain ⟨b, l, so, n, ws, rfl, _⟩ := h
    rfl
  · obtain ⟨b, l, so, n, ws, rfl, B, hso, sob, sol, w8, w12, w96, n8, k⟩ := h
    refine ⟨_, (pss_cons (ps_set (i := 3) sc_keeper.nd rfl (Or.inl rfl) (pe_op op_add pe_int (pe_call (ok_draw T) (hr.mono (by decide)) rfl T.g_draw T.F_draw.kp T.b_draw .nil pass0 (pa_cons (pv 0) (pa_cons (pe_ix (ix_listK (K := K) rfl) (pe_lst (pa_cons pe_int (pa_cons pe_int pa_nil))) (pe_call (ok_draw T) (hr.mono (by decide)) rfl T.g_draw T.F_draw.kp T.b_draw .nil pass0 (pa_cons (pv 0) (pa_cons pe_int pa_nil))) (fun _ _ => rfl)) pa_nil)))))
    (pss_cons (ps_set (i := 4) sc_keeper.nd rfl (Or.inl rfl) (pe_cmpR op_eq (pe_call (ok_draw T) (hr.mono (by decide)) rfl T.g_draw T.F_draw.kp T.b_draw .nil pass0 (pa_cons (pv 0) (pa_cons pe_int pa_nil))) pe_int (nomark _)))
    (pss_cons (ps_set (i := 5) sc_keeper.nd rfl (Or.inr rfl) (pe_callTy (list_ofK (K := K) rfl) (by rfl) T.n_list (by decide +kernel) (pa_cons (pv 2) pa_nil)))
    (pss_cons (ps_setLc (i := 6) (own := [("k", 7)]) (tt := tYes) (g := (gName 7)) rfl sc_keeper.nd rfl rfl (sw_true rfl rfl rfl (by decide +kernel)) (pi_range1 (by rfl) T.n_range (pa_cons (pe_ifExp (pt_val (pv 4)) (pe_call (ok_draw T) (hr.mono (by decide)) rfl T.g_draw T.F_draw.kp T.b_draw .nil pass0 (pa_cons (pv 0) (pa_cons (pe_op op_add (pv 3) pe_int) pa_nil))) (pv 3)) pa_nil)) (blkOk_by (own := [("k", 7)]) (N := N_keeper) (sc := defScope s_keeper) (by decide +kernel)) (fun _ _ _ _ _ => (pg_name (i := 7) sc_keeper.nd rfl (Or.inl rfl))) (fun _ _ _ _ _ => pts_nil) (fun _ _ _ _ _ => by exact (pe_K (K := K) rfl (pe_bm PySem.F.plainAttrs_list PySem.F.slot_list_pop PySem.F.type_list_pop mt_popAt (by exact (pv 5)) (by exact (pa_cons (pe_call (ok_draw T) (hr.mono (by decide)) rfl T.g_draw T.F_draw.kp T.b_draw .nil pass0 (pa_cons (pv 0) (pa_cons (pe_callB (len_seqK (K := K) rfl) (by rfl) T.n_len PySem.boot_len (pa_cons (pv 5) pa_nil)) pa_nil))) pa_nil))))))
    (pss_one (ps_ret (pe_tup (pa_cons (pv 1) (pa_cons (pv 3) (pa_cons (pv 4) (pa_cons (pv 6) pa_nil))))))))))), ?_⟩
    -- room
    refine ⟨_, rfl, (show 2 ≤ sizeLine by decide), fun q nq => ?_⟩
    have qb := B.nb nq
    have ql := B.nl nq
    refine ⟨_, rfl, b, l, 2, rfl, B.put qb ql, by decide, by decide, fun r H1 r0 r1 B1 x1 => ?_⟩
    have y1 : Ext b l H H1 := (Ext.of_same (same_new nq)).trans x1
    obtain ⟨m, em, m0, m1⟩ : ∃ m : Int, atI [V.int 3, V.int 12] r = some (.int m) ∧ 0 < m ∧ m ≤ 12 := by
      obtain e | e : r = 0 ∨ r = 1 := by omega
      · subst e
        exact ⟨3, rfl, by decide, by decide⟩
      · subst e
        exact ⟨12, rfl, by decide, by decide⟩
    refine ⟨q, _, _, _, rfl, rfl, SqL.of (x1.get upd_same qb ql), em, b, l, m, rfl, B1, m0, by omega, fun r2 H2 r20 r21 B2 x2 => ?_⟩
    refine ⟨_, _, rfl, rfl, ?_⟩
    -- whole
    refine ⟨_, rfl, b, l, 2, rfl, B2, by decide, by decide, fun r3 H3 r30 r31 B3 x3 => ⟨rfl, ?_⟩⟩
    have y3 : Ext b l H H3 := (y1.trans x2).trans x3
    obtain ⟨wh, ewh⟩ : ∃ wh, wh = decide (V.int r3 = V.int 0) := ⟨_, rfl⟩
    rw [← ewh]
    -- left
    refine ⟨_, rfl, so, _, rfl, .inl (SqL.of (y3.get hso sob sol)), fun L nL => ?_⟩
    have Lb := B3.nb nL
    have Ll := B3.nl nL
    have nL0 := y3.free nL Lb Ll
    -- row
    refine ⟨_, rfl, _, rfl, ?_⟩
    refine join2 (fun v H5 => ∃ i : Int, v = V.int i ∧ 0 ≤ i ∧ i ≤ 12 ∧ Bag H5 b l ∧ Ext b l H H5 ∧ H5 L = some (.lst (ws.map V.str))) ?_ (fun hq => ?_)
    · rintro v H5 ⟨i, rfl, i0, i12, B5, y5, h5⟩
      refine ⟨i, rfl, by omega, by omega, fun D nD => ?_⟩
      have Db := B5.nb nD
      have Dl := B5.nl nD
      have nD0 := y5.free nD Db Dl
      have LD : L ≠ D := ne_of_none h5 nD
      refine lc_range (lo := 0) (n := i.toNat) (fun j H' => Bag H' b l ∧ Ext b l H H' ∧ ∃ rest rw : List Str, H' L = some (.lst (rest.map V.str)) ∧ rest.length + j = ws.length ∧ W8 rest ∧
          H' D = some (.lst (rw.map V.str)) ∧ rw.length = j ∧ W8 rw)
        ⟨B5.put Db Dl, y5.over nD0, ws, [], by rw [upd_ne LD]; exact h5, rfl, w8, upd_same, rfl, w8_nil⟩ ?_ ?_
      · rintro j H6 hj ⟨B6, y6, rest, rw', hL, el, wr, hD, en, wq⟩
        refine ⟨rfl, ?_⟩
        refine ⟨_, rfl, .inl ⟨rfl, _, SqL.of hL⟩, _, rfl, _, rfl, L, _, rfl, .inl (SqL.of hL), b, l, _, rfl, B6, ?_, ?_, fun t H7 t0 t1 B7 x7 => ?_⟩
        · rw [List.length_map]
          omega
        · rw [List.length_map]
          omega
        rw [List.length_map] at t1
        obtain ⟨tn, rfl⟩ := Int.eq_ofNat_of_zero_le t0
        have tl : tn < rest.length := by omega
        have hL7 := x7.get hL Lb Ll
        have it : (rest.map V.str)[tn]? = some (.str rest[tn]) := map_at (List.getElem?_eq_getElem tl)
        refine ⟨L, _, _, tn, _, rfl, rfl, hL7, by omega, by omega, seq_at (by rw [List.length_map]; exact tl), it, ?_⟩
        refine ⟨_, by rw [upd_ne LD.symm]; exact x7.get hD Db Dl, by rw [List.length_map, en]; exact lt_size (m := 13) (by omega) (by decide), ?_⟩
        refine ⟨(B7.put Lb Ll).put Db Dl, ((y6.trans x7).over nL0).over nD0, rest.eraseIdx tn, rw' ++ [rest[tn]], ?_, ?_, w8_erase wr, ?_, by rw [List.length_append, en]; rfl, wq.snoc (wr _ (List.getElem_mem tl))⟩
        · rw [upd_ne LD, upd_same, erase_map]
        · rw [List.length_eraseIdx]
          rw [if_pos tl]
          omega
        · rw [upd_same, List.map_append]
          rfl
      · rintro H6 ⟨B6, y6, rest, rw', hL, el, wr, hD, en, wq⟩
        refine ⟨_, rfl, _, rfl, _, rfl, _, rfl, (show 4 ≤ sizeLine by decide), fun t nt => ?_⟩
        have tb := B6.nb nt
        have tl := B6.nl nt
        refine k t ⟨n, 1 + r2, wh, rw'⟩ _ rfl ⟨n8, by show 1 ≤ 1 + r2; omega, by show 1 + r2 ≤ 12; omega, by show rw'.length ≤ 12; omega, wq⟩ ⟨D, ?_, ?_⟩ (B6.put tb tl) (y6.trans (Ext.of_same (same_new nt)))
        · rw [nw_eq (y6.free nt tb tl), upd_same]
        · rw [nw_eq nD0, upd_ne (ne_of_none hD nt)]
          exact hD
    · cases wh with
      | true =>
        refine ⟨_, rfl, _, rfl, _, _, rfl, rfl, b, l, _, rfl, B3.put Lb Ll, by omega, by omega, fun r4 H4 r40 r41 B4 x4 => ?_⟩
        exact hq _ _ ⟨r4, rfl, r40, by omega, B4, (y3.over nL0).trans x4, x4.get upd_same Lb Ll⟩
      | false =>
        exact ⟨_, rfl, hq _ _ ⟨_, rfl, by omega, by omega, B3.put Lb Ll, y3.over nL0, upd_same⟩⟩
end
end My
namespace My
open PySem PySem.Spec PyProof.Rows L2
section
variable {P : Program} {w : World} {K : PySem.W.Frag} {mg : Str → Option Value} {base : Heap} {A : Ad}
theorem ok_board (T : Txt K mg A) : FnOk P w K mg base CX0 3 A.f_board A.d_board P_board spBoard := by
  refine T.F_board.ok sc_board (fun vs H Q E h => ?_) (fun cdv A' outer s H vs Q E hr h => ?_)
  · obtain ⟨b, l, rfl, _⟩ := h
    rfl
  · obtain ⟨b, l, rfl, B, k⟩ := h
    refine ⟨_, (pss_cons (ps_set (i := 1) sc_board.nd rfl (Or.inr rfl) (pe_call (ok_pool T) (hr.mono (by decide)) rfl T.g_pool T.F_pool.kp T.b_pool .nil pass0 (pa_cons (pv 0) (pa_cons (pe_ix (ix_listK (K := K) rfl) (pe_lst (pa_cons pe_int (pa_cons pe_int (pa_cons pe_int pa_nil)))) (pe_call (ok_draw T) (hr.mono (by decide)) rfl T.g_draw T.F_draw.kp T.b_draw .nil pass0 (pa_cons (pv 0) (pa_cons pe_int pa_nil))) (fun _ _ => rfl)) pa_nil))))
    (pss_cons (ps_set (i := 2) sc_board.nd rfl (Or.inr rfl) (pe_ix (ix_listK (K := K) rfl) (pe_lst (pa_cons (pe_slice (sl_listK (K := K) rfl) (pv 1) po_none (po_some pe_int)) (pa_cons (pe_call (ok_pool T) (hr.mono (by decide)) rfl T.g_pool T.F_pool.kp T.b_pool .nil pass0 (pa_cons (pv 0) (pa_cons pe_int pa_nil))) pa_nil))) (pe_call (ok_draw T) (hr.mono (by decide)) rfl T.g_draw T.F_draw.kp T.b_draw .nil pass0 (pa_cons (pv 0) (pa_cons pe_int pa_nil))) (fun _ _ => rfl)))
    (pss_cons (ps_set (i := 3) sc_board.nd rfl (Or.inl rfl) (pe_lst pa_nil))
    (pss_cons (ps_set (i := 4) sc_board.nd rfl (Or.inl rfl) pe_int)
    (pss_cons (ps_for PassesOwn.never rfl (pi_range1 (by rfl) T.n_range (pa_cons (pe_call (ok_draw T) (hr.mono (by decide)) rfl T.g_draw T.F_draw.kp T.b_draw .nil pass0 (pa_cons (pv 0) (pa_cons pe_int pa_nil))) pa_nil)) (pg_name (i := 5) sc_board.nd rfl (Or.inl rfl))
      (pss_cons (ps_set (i := 6) sc_board.nd rfl (Or.inl rfl) (pe_call (ok_draw T) (hr.mono (by decide)) rfl T.g_draw T.F_draw.kp T.b_draw .nil pass0 (pa_cons (pv 0) (pa_cons (pe_op op_add (pv 4) pe_int) pa_nil))))
      (pss_cons (ps_set (i := 4) sc_board.nd rfl (Or.inl rfl) (pe_op op_sub (pv 4) (pv 6)))
      (pss_cons (ps_setLc (i := 7) (own := [("k", 8)]) (tt := tYes) (g := (gName 8)) rfl sc_board.nd rfl rfl (sw_true rfl rfl rfl (by decide +kernel)) (pi_range1 (by rfl) T.n_range (pa_cons (pv 6) pa_nil)) (blkOk_by (own := [("k", 8)]) (N := N_board) (sc := defScope s_board) (by decide +kernel)) (fun _ _ _ _ _ => (pg_name (i := 8) sc_board.nd rfl (Or.inl rfl))) (fun _ _ _ _ _ => pts_nil) (fun _ _ _ _ _ => by exact (pe_call (ok_keeper T) (hr.mono (by decide)) rfl T.g_keeper T.F_keeper.kp T.b_keeper .nil pass0 (pa_cons (pv 0) (pa_cons (pe_K (K := K) rfl (pe_bm PySem.F.plainAttrs_list PySem.F.slot_list_pop PySem.F.type_list_pop mt_popAt (by exact (pv 2)) (by exact (pa_cons (pe_call (ok_draw T) (hr.mono (by decide)) rfl T.g_draw T.F_draw.kp T.b_draw .nil pass0 (pa_cons (pv 0) (pa_cons (pe_callB (len_seqK (K := K) rfl) (by rfl) T.n_len PySem.boot_len (pa_cons (pv 2) pa_nil)) pa_nil))) pa_nil)))) (pa_cons (pv 1) pa_nil))))))
      (pss_one (ps_expr (pe_K (K := K) rfl (pe_bm PySem.F.plainAttrs_list PySem.F.slot_list_append PySem.F.type_list_append mt_append (by exact (pv 3)) (by exact (pa_cons (pe_tup (pa_cons (pe_call (ok_draw T) (hr.mono (by decide)) rfl T.g_draw T.F_draw.kp T.b_draw .nil pass0 (pa_cons (pv 0) (pa_cons (pe_op op_add (pv 6) pe_int) pa_nil))) (pa_cons (pv 7) pa_nil))) pa_nil))))))))))
    (pss_one (ps_ret (pv 3)))))))), ?_⟩
    -- some
    refine ⟨_, rfl, (show 3 ≤ sizeLine by decide), fun q nq => ?_⟩
    have qb := B.nb nq
    have ql := B.nl nq
    refine ⟨_, rfl, b, l, 3, rfl, B.put qb ql, by decide, by decide, fun r H1 r0 r1 B1 x1 => ?_⟩
    have y1 : Ext b l H H1 := (Ext.of_same (same_new nq)).trans x1
    obtain ⟨v, ev, m, rfl, m0, m1⟩ := pick3 (a := .int 12) (b := .int 16) (c := .int 96) r0 r1 (fun v => ∃ m, v = V.int m ∧ 12 ≤ m ∧ m ≤ 96) ⟨_, rfl, by decide, by decide⟩ ⟨_, rfl, by decide, by decide⟩ ⟨_, rfl, by decide, by decide⟩
    refine ⟨q, _, _, _, rfl, rfl, SqL.of (x1.get upd_same qb ql), ev, b, l, m, rfl, B1, by omega, m1, fun so ws H2 nso sob sol wl w8 hso B2 x2 => ?_⟩
    have y2 := y1.trans x2
    -- called
    refine ⟨_, rfl, _, rfl, so, _, rfl, SqL.of hso, fun c1 nc1 => ?_⟩
    obtain ⟨cs1, ec1, lc1, sub1⟩ := cut_pre (f := V.str) (xs := ws) (k := 8)
    have ec1' : cutV (ws.map V.str) none (some 8) = cs1.map V.str := ec1
    rw [ec1']
    have c1b := B2.nb nc1
    have c1l := B2.nl nc1
    have soc1 : so ≠ c1 := ne_of_none hso nc1
    have nc10 := y2.free nc1 c1b c1l
    refine ⟨_, rfl, b, l, 8, rfl, B2.put c1b c1l, by decide, by decide, fun c2 cs2 H3 nc2 c2b c2l lc2 w82 hc2 B3 x3 => ?_⟩
    have y3 := (y2.over nc10).trans x3
    have hc1 : H3 c1 = some (.lst (cs1.map V.str)) := x3.get upd_same c1b c1l
    have hso3 : H3 so = some (.lst (ws.map V.str)) := x3.get (by rw [upd_ne soc1]; exact hso) sob sol
    have c1c2 : c1 ≠ c2 := fun z => by
      rw [← z, upd_same] at nc2
      cases nc2
    have soc2 : so ≠ c2 := fun z => by
      rw [← z, upd_ne soc1, hso] at nc2
      cases nc2
    refine ⟨(show 2 ≤ sizeLine by decide), fun q2 nq2 => ?_⟩
    have q2b := B3.nb nq2
    have q2l := B3.nl nq2
    refine ⟨_, rfl, b, l, 2, rfl, B3.put q2b q2l, by decide, by decide, fun r2 H4 r20 r21 B4 x4 => ?_⟩
    have y4 := (y3.trans (Ext.of_same (same_new nq2))).trans x4
    have z4 : Ext b l H3 H4 := (Ext.of_same (same_new nq2)).trans x4
    obtain ⟨cl, cs, ecl, hcl, clb, cll, ncl, socl, lcs, w8c⟩ : ∃ (cl : Addr) (cs : List Str), atI [V.ref c1, V.ref c2] r2 = some (.ref cl) ∧ H4 cl = some (.lst (cs.map V.str)) ∧ cl ≠ b ∧ cl ≠ l ∧ H cl = none ∧ so ≠ cl ∧ cs.length = 8 ∧ W8 cs := by
      obtain e | e : r2 = 0 ∨ r2 = 1 := by omega
      · subst e
        exact ⟨c1, cs1, rfl, z4.get hc1 c1b c1l, c1b, c1l, nc10, soc1, by omega, fun z hz => w8 z (sub1 z hz)⟩
      · subst e
        refine ⟨c2, cs2, rfl, z4.get hc2 c2b c2l, c2b, c2l, ?_, soc2, by omega, w82⟩
        have nn : H2 c2 = none := by
          rw [upd_ne c1c2.symm] at nc2
          exact nc2
        exact y2.free nn c2b c2l
    have hso4 := z4.get hso3 sob sol
    refine ⟨q2, _, _, _, rfl, rfl, SqL.of (x4.get upd_same q2b q2l), ecl, ?_⟩
    -- found; left
    refine ⟨(show 0 ≤ sizeLine by decide), fun f nf => ?_⟩
    have fb := B4.nb nf
    have fl := B4.nl nf
    have nf0 := y4.free nf fb fl
    have clf : cl ≠ f := ne_of_none hcl nf
    have sof : so ≠ f := ne_of_none hso4 nf
    -- for t in range(..)
    refine ⟨_, rfl, b, l, 4, rfl, B4.put fb fl, by decide, by decide, fun r3 H5 r30 r31 B5 x5 => ?_⟩
    have y5 := (y4.over nf0).trans x5
    refine ⟨r3, rfl, by omega, by omega, for_range (lo := 0) (n := r3.toNat) (fun i σ H' => ∃ v5 v6 v7 v8 lf, σ = [some (.ref b), some (.ref so), some (.ref cl), some (.ref f), some (.int lf), v5, v6, v7, v8] ∧
        Bag H' b l ∧ Ext b l H H' ∧ H' so = some (.lst (ws.map V.str)) ∧ (∃ cs : List Str, H' cl = some (.lst (cs.map V.str)) ∧ (cs.length : Int) = lf ∧ lf ≤ 8 ∧ W8 cs) ∧
        ∃ (as : List Addr) (bd : List Tm), H' f = some (.lst (as.map V.ref)) ∧ bd.length = i ∧ (∀ t ∈ bd, TmOk t) ∧ Paired (TmAt (Of1 f (Of1 cl (Nw H H')))) as bd)
      ⟨none, none, none, none, 8, rfl, B5, y5, x5.get (by rw [upd_ne sof]; exact hso4) sob sol, ⟨cs, x5.get (by rw [upd_ne clf]; exact hcl) clb cll, by omega, by omega, w8c⟩, [], [], x5.get upd_same fb fl, rfl, (by intro t h; cases h), .nil⟩ ?_ ?_⟩
    · rintro i σ H6 hi ⟨v5, v6, v7, v8, lf, rfl, B6, y6, hso6, ⟨cs, hcl6, el, lf8, w8c⟩, as, bd, hf6, eb, okb, pb⟩
      -- count; left
      refine ⟨_, rfl, _, rfl, _, _, rfl, rfl, b, l, _, rfl, B6, by omega, by omega, fun n H7 n0 n1 B7 x7 => ?_⟩
      refine ⟨_, rfl, _, rfl, _, _, rfl, rfl, ?_⟩
      have y7 := y6.trans x7
      have hso7 := x7.get hso6 sob sol
      have hcl7 := x7.get hcl6 clb cll
      have hf7 := x7.get hf6 fb fl
      have pb7 : Paired (TmAt (Of1 f (Of1 cl (Nw H H7)))) as bd := L2.Paired.mapP pb fun a t q => q.same (of1_same (of1_same (nw_ext B x7)))
      -- keepers
      refine ⟨_, rfl, n, rfl, by omega, by omega, fun D nD => ?_⟩
      have Db := B7.nb nD
      have Dl := B7.nl nD
      have nD0 := y7.free nD Db Dl
      have soD : so ≠ D := ne_of_none hso7 nD
      have clD : cl ≠ D := ne_of_none hcl7 nD
      have fD : f ≠ D := ne_of_none hf7 nD
      have outB : ∀ {c : Addr}, H c = none → c ≠ b ∧ c ≠ l := fun h => ⟨B.nb h, B.nl h⟩
      refine lc_range (lo := 0) (n := n.toNat) (fun j H' => Bag H' b l ∧ Ext b l H H' ∧ H' so = some (.lst (ws.map V.str)) ∧ H' f = some (.lst (as.map V.ref)) ∧
          (∃ cs : List Str, H' cl = some (.lst (cs.map V.str)) ∧ cs.length + j = lf ∧ W8 cs) ∧ Paired (TmAt (Of1 D (Of1 f (Of1 cl (Nw H H'))))) as bd ∧
          ∃ (ds : List Addr) (ks : List Kp), H' D = some (.lst (ds.map V.ref)) ∧ ks.length = j ∧ (∀ k ∈ ks, KpOk k) ∧ Paired (KpAt (Of1 D (Of1 f (Of1 cl (Nw H H'))))) ds ks)
        ⟨B7.put Db Dl, y7.over nD0, by rw [upd_ne soD]; exact hso7, by rw [upd_ne fD]; exact hf7, ⟨cs, by rw [upd_ne clD]; exact hcl7, by omega, w8c⟩, ?_, [], [], upd_same, rfl, (by intro k h; cases h), .nil⟩ ?_ ?_
      · refine L2.Paired.mapP pb7 fun a t q => q.same fun c u h => ?_
        obtain ⟨h1, h2, h3, h4⟩ := of2_get h
        have h5 := ne_of_none h4 nD
        exact of3_put h5 h1 h2 h3 (by rw [upd_ne h5]; exact h4)
      · rintro j H8 hj ⟨B8, y8, hso8, hf8, ⟨cs, hcl8, el8, w8c⟩, pb8, ds, ks, hD8, ek, okk, pk⟩
        refine ⟨rfl, ?_⟩
        refine ⟨_, rfl, _, rfl, .inl ⟨rfl, _, SqL.of hcl8⟩, _, rfl, _, rfl, cl, _, rfl, .inl (SqL.of hcl8), b, l, _, rfl, B8, ?_, ?_, fun t H9 t0 t1 B9 x9 => ?_⟩
        · rw [List.length_map]
          omega
        · rw [List.length_map]
          omega
        rw [List.length_map] at t1
        obtain ⟨tn, rfl⟩ := Int.eq_ofNat_of_zero_le t0
        have tl : tn < cs.length := by omega
        have hcl9 := x9.get hcl8 clb cll
        have it : (cs.map V.str)[tn]? = some (.str cs[tn]) := map_at (List.getElem?_eq_getElem tl)
        refine ⟨cl, _, _, tn, _, rfl, rfl, hcl9, by omega, by omega, seq_at (by rw [List.length_map]; exact tl), it, ?_⟩
        have hcl10 : (upd H9 cl (.lst ((cs.map V.str).eraseIdx tn))) cl = some (.lst ((cs.eraseIdx tn).map V.str)) := by rw [upd_same, erase_map]
        have hso10 : (upd H9 cl (.lst ((cs.map V.str).eraseIdx tn))) so = some (.lst (ws.map V.str)) := by rw [upd_ne socl]; exact x9.get hso8 sob sol
        refine ⟨_, rfl, b, l, so, _, ws, rfl, B9.put clb cll, hso10, sob, sol, w8, by omega, by omega, w8c _ (List.getElem_mem tl), fun a kk H10 en kok kat B10 x10 => ?_⟩
        have hD10 : H10 D = some (.lst (ds.map V.ref)) := x10.get (by rw [upd_ne clD.symm]; exact x9.get hD8 Db Dl) Db Dl
        have hf9 : (upd H9 cl (.lst ((cs.map V.str).eraseIdx tn))) f = some (.lst (as.map V.ref)) := by rw [upd_ne clf.symm]; exact x9.get hf8 fb fl
        have dl : ds.length = ks.length := pk.length
        have keepD : Same (Of1 D (Of1 f (Of1 cl (Nw H H8)))) (Of1 D (Of1 f (Of1 cl (Nw H (upd H10 D (.lst (ds.map V.ref ++ [.ref a]))))))) := fun c u h => by
          obtain ⟨h0, h1, h2, h3, h4⟩ := of3_get h
          obtain ⟨c1', c2'⟩ := outB h3
          refine of3_put h0 h1 h2 h3 ?_
          rw [upd_ne h0]
          exact x10.get (by rw [upd_ne h2]; exact x9.get h4 c1' c2') c1' c2'
        refine ⟨_, hD10, by rw [List.length_map, dl, ek]; exact lt_size (m := 9) (by omega) (by decide), ?_⟩
        refine ⟨B10.put Db Dl, (((y8.trans x9).over ncl).trans x10).over nD0, by rw [upd_ne soD]; exact x10.get hso10 sob sol, by rw [upd_ne fD]; exact x10.get hf9 fb fl,
          ⟨cs.eraseIdx tn, by rw [upd_ne clD]; exact x10.get hcl10 clb cll, ?_, w8_erase w8c⟩, L2.Paired.mapP pb8 fun a t q => q.same keepD, ds ++ [a], ks ++ [kk], ?_, by rw [List.length_append, ek]; rfl, ?_, ?_⟩
        · rw [List.length_eraseIdx, if_pos tl]
          omega
        · rw [upd_same, List.map_append]
          rfl
        · intro k hk
          rcases List.mem_append.mp hk with z | z
          · exact okk k z
          · cases List.mem_singleton.mp z
            exact kok
        · refine paired_snoc (L2.Paired.mapP pk fun a t q => q.same keepD) (kat.same fun c u h => ?_)
          obtain ⟨h1, h2⟩ := nw_some h
          have hD9 : (upd H9 cl (.lst ((cs.map V.str).eraseIdx tn))) D = some (.lst (ds.map V.ref)) := by rw [upd_ne clD.symm]; exact x9.get hD8 Db Dl
          have cD : c ≠ D := fun z => by rw [z, hD9] at h1; cases h1
          have cf : c ≠ f := fun z => by rw [z, hf9] at h1; cases h1
          have cc : c ≠ cl := fun z => by rw [z, hcl10] at h1; cases h1
          have Bx := B9.put (o := .lst ((cs.map V.str).eraseIdx tn)) clb cll
          exact of3_put cD cf cc (((y8.trans x9).over ncl).free h1 (Bx.nb h1) (Bx.nl h1)) (by rw [upd_ne cD]; exact h2)
      · rintro H8 ⟨B8, y8, hso8, hf8, ⟨cs, hcl8, el8, w8c⟩, pb8, ds, ks, hD8, ek, okk, pk⟩
        -- found.append((.., keepers))
        refine ⟨_, rfl, .inl ⟨rfl, _, SqL.of hf8⟩, _, rfl, _, rfl, _, _, rfl, rfl, b, l, _, rfl, B8, by omega, by omega, fun r4 H9 r40 r41 B9 x9 => ?_⟩
        refine ⟨_, rfl, (show 2 ≤ sizeLine by decide), fun t nt => ?_⟩
        have hf9 := x9.get hf8 fb fl
        have hD9 := x9.get hD8 Db Dl
        have hcl9 := x9.get hcl8 clb cll
        have tb := B9.nb nt
        have tl := B9.nl nt
        have y9 := y8.trans x9
        have nt0 := y9.free nt tb tl
        have ft : f ≠ t := ne_of_none hf9 nt
        have clt : cl ≠ t := ne_of_none hcl9 nt
        have Dt : D ≠ t := ne_of_none hD9 nt
        have al : as.length = bd.length := pb8.length
        refine ⟨f, _, _, rfl, rfl, by rw [upd_ne ft]; exact hf9, by rw [List.length_map, al, eb]; exact lt_size (m := 5) (by omega) (by decide), ?_⟩
        have keep9 : Same (Of1 D (Of1 f (Of1 cl (Nw H H8)))) (Of1 f (Of1 cl (Nw H (upd (upd H9 t (.tup [.int r4, .ref D])) f (.lst (as.map V.ref ++ [.ref t])))))) := fun c u h => by
          obtain ⟨h0, h1, h2, h3, h4⟩ := of3_get h
          obtain ⟨c1', c2'⟩ := outB h3
          have h5 := x9.get h4 c1' c2'
          refine of2_put h1 h2 h3 ?_
          rw [upd_ne h1, upd_ne (ne_of_none h5 nt)]
          exact h5
        refine ⟨_, _, _, _, _, rfl, (B9.put tb tl).put fb fl, (y9.over nt0).over nf0, ?_, ⟨cs, ?_, ?_, ?_, w8c⟩, as ++ [t], bd ++ [⟨r4, ks⟩], ?_, by rw [List.length_append, eb]; rfl, ?_, ?_⟩
        · rw [upd_ne sof, upd_ne (ne_of_none (x9.get hso8 sob sol) nt)]
          exact x9.get hso8 sob sol
        · rw [upd_ne clf, upd_ne clt]
          exact hcl9
        · omega
        · omega
        · rw [upd_same, List.map_append]
          rfl
        · intro tm hm
          rcases List.mem_append.mp hm with z | z
          · exact okb tm z
          · cases List.mem_singleton.mp z
            exact ⟨r40, by show r4 ≤ 9; omega, by show ks.length ≤ 8; omega, okk⟩
        · refine paired_snoc (L2.Paired.mapP pb8 fun a t q => q.same keep9) ⟨D, ds, ?_, ?_, L2.Paired.mapP pk fun a t q => q.same keep9⟩
          · exact of2_put ft.symm clt.symm nt0 (by rw [upd_ne ft.symm, upd_same])
          · exact of2_put fD.symm clD.symm nD0 (by rw [upd_ne fD.symm, upd_ne Dt]; exact hD9)
    · rintro σ H6 ⟨v5, v6, v7, v8, lf, rfl, B6, y6, hso6, ⟨cs, hcl6, el, lf8, w8c⟩, as, bd, hf6, eb, okb, pb⟩
      have less : Same (Of1 f (Of1 cl (Nw H H6))) (Nw H H6) := (of1_less _ _).trans (of1_less _ _)
      exact ⟨_, rfl, k f bd H6 ⟨by omega, okb⟩ ⟨as, by rw [nw_eq nf0]; exact hf6, L2.Paired.mapP pb fun a t q => q.same less⟩ B6 y6⟩
end
end My
namespace My
open PySem PySem.Spec PyProof.Rows L2
/-- all keepers of a board -/
def allK (bd : List Tm) : List Kp := bd.flatMap (·.ks)
theorem allK_more {bd : List Tm} {i : Nat} {t : Tm} (h : bd[i]? = some t) : allK (bd.take (i + 1)) = allK (bd.take i) ++ t.ks := by
  unfold allK
  rw [List.take_succ, h, List.flatMap_append]
  show _ ++ List.flatMap _ [t] = _
  rw [List.flatMap_cons, List.flatMap_nil, List.append_nil]
theorem allK_len : ∀ bd : List Tm, (∀ t ∈ bd, TmOk t) → (allK bd).length ≤ 8 * bd.length
  | [], _ => Nat.le_refl _
  | t :: r, h => by
    have ih := allK_len r fun x hx => h x (List.mem_cons_of_mem _ hx)
    have e : allK (t :: r) = t.ks ++ allK r := List.flatMap_cons
    rw [e, List.length_append, List.length_cons]
    have := (h t List.mem_cons_self).k8
    omega
def spKo : Sp := fun vs H Q _ => ∃ (a : Addr) (bd : List Tm), vs = [.ref a] ∧ BdAt H a bd ∧ BdOk bd ∧
  ∀ (p : Addr) (as : List Addr) (H' : Hp), H p = none → H' p = some (.lst (as.map V.ref)) → Paired (KpAt H) as (allK bd) → Same H H' → Q (.ref p) H'
section
variable {P : Program} {w : World} {K : PySem.W.Frag} {mg : Str → Option Value} {base : Heap} {A : Ad}
theorem ok_keepers_of (T : Txt K mg A) : FnOk P w K mg base CX0 1 A.f_keepers_of A.d_keepers_of P_keepers_of spKo := by
  refine T.F_keepers_of.ok sc_keepers_of (fun vs H Q E h => ?_) (fun cdv A' outer s H vs Q E hr h => ?_)
  · obtain ⟨a, bd, rfl, _⟩ := h
    rfl
  · obtain ⟨a, bd, rfl, hb, ok, k⟩ := h
    refine ⟨_, (pss_one (ps_ret (pe_lc2 (own := [("team", 1), ("keeper", 2)]) (tt := tYes) (tt1 := tYes) (vs1 := [2]) (g := (gName 1)) (g1 := (gName 2)) rfl sc_keepers_of.nd (pi_listK (K := K) rfl (pv 0)) (blkOk_by (own := [("team", 1), ("keeper", 2)]) (N := N_keepers_of) (sc := defScope s_keepers_of) (by decide +kernel)) (by decide) (fun _ _ _ _ _ => (pg_name (i := 1) sc_keepers_of.nd rfl (Or.inl rfl))) (fun _ _ _ _ _ => pts_nil) (fun _ _ _ _ _ => (pi_listK (K := K) rfl (pe_ix (ix_tupK (K := K) rfl) (pv 1) pe_int (fun _ _ => rfl)))) (fun _ _ _ _ _ => (pg_name (i := 2) sc_keepers_of.nd rfl (Or.inl rfl))) (fun _ _ _ _ _ => pts_nil) (fun _ _ _ _ _ => (pv 2))))), ?_⟩
    obtain ⟨as, ha, pa⟩ := hb
    refine ⟨_, rfl, a, rfl, ⟨_, SqL.of ha⟩, fun D nD => ?_⟩
    have al := pa.length
    refine ⟨fun i m H' => m = as.length - i ∧ i ≤ as.length ∧ Same H H' ∧ ∃ ds : List Addr, H' D = some (.lst (ds.map V.ref)) ∧ Paired (KpAt H) ds (allK (bd.take i)),
      ⟨_, rfl, Nat.zero_le _, same_new nD, [], upd_same, .nil⟩, ?_⟩
    rintro i m H1 ⟨rfl, hi, s1, ds, hD, pd⟩
    have q1 : SqL K H1 a (as.map V.ref) := SqL.of (s1 _ _ ha)
    by_cases lt : i < as.length
    · refine .inr ⟨⟨_, V.ref as[i], q1, map_at (List.getElem?_eq_getElem lt)⟩, fun H' => i + 1 ≤ as.length ∧ Same H H' ∧ ∃ ds : List Addr, H' D = some (.lst (ds.map V.ref)) ∧ Paired (KpAt H) ds (allK (bd.take (i + 1))), fun H' z => ⟨as.length - (i + 1), by omega, rfl, z⟩, ?_⟩
      rintro x H2 ⟨rfl, y⟩
      have ex : V.ref as[i] = x := Option.some.inj ((map_at (f := V.ref) (List.getElem?_eq_getElem lt)).symm.trans (y _ q1))
      subst ex
      obtain ⟨t, et, tat⟩ := paired_at pa (List.getElem?_eq_getElem lt)
      obtain ⟨c, cs, ht, hc, pc⟩ := tat
      have tok := ok.ok t (List.mem_of_getElem? et)
      have cl := pc.length
      have more := allK_more et
      have hl := allK_len (bd.take i) fun x hx => ok.ok x (List.mem_of_mem_take hx)
      have t3 := ok.t3
      have k8 := tok.k8
      rw [List.length_take] at hl
      refine ⟨rfl, ?_⟩
      refine ⟨_, rfl, as[i], _, _, _, rfl, rfl, SqT.of (s1 _ _ ht), rfl, c, rfl, ⟨_, SqL.of (s1 _ _ hc)⟩, ?_⟩
      refine ⟨fun j m H' => m = cs.length - j ∧ j ≤ cs.length ∧ Same H H' ∧ ∃ ds : List Addr, H' D = some (.lst (ds.map V.ref)) ∧ Paired (KpAt H) ds (allK (bd.take i) ++ t.ks.take j),
        ⟨_, rfl, Nat.zero_le _, s1, ds, hD, by rw [List.take_zero, List.append_nil]; exact pd⟩, ?_⟩
      rintro j m H3 ⟨rfl, hj, s3, ds3, hD3, pd3⟩
      have q3 : SqL K H3 c (cs.map V.ref) := SqL.of (s3 _ _ hc)
      by_cases lj : j < cs.length
      · refine .inr ⟨⟨_, V.ref cs[j], q3, map_at (List.getElem?_eq_getElem lj)⟩, fun H' => j + 1 ≤ cs.length ∧ Same H H' ∧ ∃ ds : List Addr, H' D = some (.lst (ds.map V.ref)) ∧ Paired (KpAt H) ds (allK (bd.take i) ++ t.ks.take (j + 1)), fun H' z => ⟨cs.length - (j + 1), by omega, rfl, z⟩, ?_⟩
        rintro x H4 ⟨rfl, y⟩
        have ex : V.ref cs[j] = x := Option.some.inj ((map_at (f := V.ref) (List.getElem?_eq_getElem lj)).symm.trans (y _ q3))
        subst ex
        obtain ⟨kp, ek, kat⟩ := paired_at pc (List.getElem?_eq_getElem lj)
        have dl := pd3.length
        rw [List.length_append, List.length_take] at dl
        refine ⟨rfl, _, rfl, _, hD3, by rw [List.length_map]; exact lt_size (m := 40) (by omega) (by decide), lj, ?_, ds3 ++ [cs[j]], ?_, ?_⟩
        · exact same_over s3 nD
        · rw [upd_same, List.map_append]
          rfl
        · rw [List.take_succ, ek, ← List.append_assoc]
          exact paired_snoc pd3 kat
      · refine .inl ⟨⟨_, q3, by rw [List.length_map]; omega⟩, lt, s3, ds3, hD3, ?_⟩
        rw [more]
        have e : t.ks.take j = t.ks := List.take_of_length_le (by omega)
        rw [e] at pd3
        exact pd3
    · refine .inl ⟨⟨_, q1, by rw [List.length_map]; omega⟩, k D ds H1 nD hD ?_ s1⟩
      rw [List.take_of_length_le (by omega)] at pd
      exact pd
/-- the first keeper of a name -/
def findK (n : Str) (ks : List Kp) : Option Kp := ks.find? fun k => decide (k.name = n)
def elderV (k : Kp) : V := match k.row with
  | [] => .non
  | x :: _ => .str x
def spEldest (A : Ad) : Sp := fun vs H Q E => ∃ (a : Addr) (n : Str) (bd : List Tm), vs = [.ref a, .str n] ∧ BdAt H a bd ∧ BdOk bd ∧ n.length ≤ 100 ∧
  (∀ k, findK n (allK bd) = some k → ∀ H', Same H H' → Q (elderV k) H') ∧
  (findK n (allK bd) = none → ∀ H', Same H H' → E (.ref A.c_NoKeeper) none H')
theorem find_step {n : Str} {ks : List Kp} {i : Nat} {k : Kp} (h : ks[i]? = some k) (hn : findK n (ks.take i) = none) :
    findK n (ks.take (i + 1)) = if k.name = n then some k else none := by
  unfold findK at hn ⊢
  rw [List.take_succ, h, List.find?_append, hn]
  show (none : Option Kp).or (List.find? _ [k]) = _
  rw [Option.none_or, List.find?_cons, List.find?_nil]
  by_cases e : k.name = n
  · rw [if_pos e, decide_eq_true e]
  · rw [if_neg e, decide_eq_false e]
theorem find_pre {n : Str} {ks : List Kp} {i : Nat} {k : Kp} (h : findK n (ks.take i) = some k) : findK n ks = some k := by
  unfold findK at h ⊢
  have e : ks = ks.take i ++ ks.drop i := (List.take_append_drop i ks).symm
  rw [e, List.find?_append, h]
  rfl
def spCalled (A : Ad) : Sp := fun vs H Q E => ∃ (a : Addr) (n : Str) (bd : List Tm), vs = [.ref a, .str n] ∧ BdAt H a bd ∧ BdOk bd ∧ n.length ≤ 100 ∧
  (∀ k, findK n (allK bd) = some k → ∀ x H', Same H H' → KpAt H' x k → Q (.ref x) H') ∧
  (findK n (allK bd) = none → ∀ H', Same H H' → E (.ref A.c_NoKeeper) none H')
theorem ok_keeper_called (T : Txt K mg A) : FnOk P w K mg base (L2.CX P w) 2 A.f_keeper_called A.d_keeper_called P_keeper_called (spCalled A) := by
  refine T.F_keeper_called.okX sc_keeper_called (fun vs H Q E h => ?_) (fun cdv A' outer s H vs Q E hr h => ?_)
  · obtain ⟨a, n, bd, rfl, _⟩ := h
    rfl
  · obtain ⟨a, n, bd, rfl, hb, ok, n100, kY, kN⟩ := h
    refine ⟨_, (pss_cons (ps_nox (ps_for PassesOwn.never rfl (pi_listK (K := K) rfl (pe_call (ok_keepers_of T) (hr.mono (by decide)) rfl T.g_keepers_of T.F_keepers_of.kp T.b_keepers_of .nil pass0 (pa_cons (pv 0) pa_nil))) (pg_name (i := 2) sc_keeper_called.nd rfl (Or.inl rfl))
      (pss_one (ps_if (pt_cmpR op_eq (pe_ix (ix_tupK (K := K) rfl) (pv 2) pe_int (fun _ _ => rfl)) (pv 1) (nomark _))
        (pss_one (ps_ret (pv 2)))
        pss_nil))))
    (pss_one (ps_raise rfl (takes_of rfl rfl rfl rfl) (SkE.pmk_own1 PySem.F.excBase_LookupError T.x_NoKeeper T.g_NoKeeper T.k_NoKeeper (raises_own T.bx_NoKeeper T.tx_NoKeeper) rfl (pe_joined (.cons pe_str (.cons (pe_fmt (pv 1)) .nil))))))), ?_⟩
    refine ⟨_, rfl, a, bd, rfl, hb, ok, fun p as H1 np hp pk s1 => ?_⟩
    refine ⟨p, rfl, ⟨_, SqL.of hp⟩, for_list (K := K) (a := p) (xs := as.map V.ref) (fun i σ H' => H' = H1 ∧ ∃ v, σ = [some (.ref a), some (.str n), v] ∧ findK n ((allK bd).take i) = none)
      ⟨rfl, none, rfl, rfl⟩ (fun i σ H' _ z => by rw [z.1]; exact SqL.of hp) ?_ ?_⟩
    · rintro i y σ H' hi ⟨rfl, v, rfl, hn⟩
      rw [List.getElem?_map] at hi
      cases ea : as[i]? with
      | none =>
        rw [ea] at hi
        cases hi
      | some x =>
        rw [ea] at hi
        cases hi
        obtain ⟨kp, ek, kat⟩ := paired_at pk ea
        obtain ⟨r, h1, h2⟩ := kat.same s1
        have fs := find_step ek hn
        refine ⟨_, rfl, x, _, _, _, rfl, rfl, SqT.of h1, rfl, _, rfl, rfl, _, rfl, ?_⟩
        by_cases e : kp.name = n
        · rw [decide_eq_true (show V.str kp.name = V.str n by rw [e])]
          refine iteT ?_
          rw [if_pos e] at fs
          exact ⟨_, rfl, kY kp (find_pre fs) x _ s1 (kat.same s1)⟩
        · rw [decide_eq_false (show ¬ V.str kp.name = V.str n from fun z => e (V.str.inj z))]
          refine iteF ?_
          rw [if_neg e] at fs
          exact ⟨rfl, _, rfl, fs⟩
    · rintro σ H' ⟨rfl, v, rfl, hn⟩
      rw [List.length_map, List.take_of_length_le (by rw [pk.length]; exact Nat.le_refl _)] at hn
      have e := kN hn _ s1
      have l1 : (Str.empty ++ ("no keeper is called " : Str)).length = 20 := by decide +kernel
      have sz : ∀ n : Nat, n ≤ 1000 → n ≤ sizeLine := fun n h => Nat.le_of_lt (small1000 h)
      exact ⟨_, rfl, by rw [l1]; exact sz _ (by decide), _, rfl, .inl ⟨n, rfl, sz _ (by omega), n, rfl, by rw [str_add, l1]; exact sz _ (by omega), e⟩⟩
theorem ok_eldest (T : Txt K mg A) : FnOk P w K mg base (L2.CX P w) 3 A.f_eldest A.d_eldest P_eldest (spEldest A) := by
  refine T.F_eldest.okX sc_eldest (fun vs H Q E h => ?_) (fun cdv A' outer s H vs Q E hr h => ?_)
  · obtain ⟨a, n, bd, rfl, _⟩ := h
    rfl
  · obtain ⟨a, n, bd, rfl, hb, ok, n100, kY, kN⟩ := h
    refine ⟨_, (pss_cons (ps_set (i := 2) sc_eldest.nd rfl (Or.inl rfl) (pe_ix (ix_tupK (K := K) rfl) (pe_call (ok_keeper_called T) (hr.mono (by decide)) rfl T.g_keeper_called T.F_keeper_called.kp T.b_keeper_called .nil (passes_call (takes_of rfl rfl rfl rfl) (fun _ _ _ _ h => h)) (pa_cons (pv 0) (pa_cons (pv 1) pa_nil))) pe_int (fun _ _ => rfl)))
    (pss_one (ps_ret (pe_ifExp (pt_truth (pv 2) (by intro _; rfl)) (pe_ix (ix_listK (K := K) rfl) (pv 2) pe_int (fun _ _ => rfl)) pe_non)))), ?_⟩
    refine ⟨_, rfl, _, rfl, a, n, bd, rfl, hb, ok, n100, fun kp ff x H1 s1 kat => ?_, fun hn H1 s1 => kN hn H1 s1⟩
    obtain ⟨r, h1, h2⟩ := kat
    have q := kY kp ff _ s1
    refine ⟨x, _, _, _, rfl, rfl, SqT.of h1, rfl, ?_⟩
    refine ⟨_, rfl, !(kp.row.map V.str).isEmpty, .inl ⟨_, SqL.of h2, rfl⟩, ?_⟩
    unfold elderV at q
    cases er : kp.row with
    | nil =>
      rw [er] at q
      exact q
    | cons z zs =>
      rw [er] at q h2
      exact ⟨_, rfl, r, _, _, _, rfl, rfl, SqL.of h2, atI_nat (j := 0) (v := V.str z) rfl, q⟩
end
end My
namespace My
open PySem PySem.Spec PyProof.Rows L2
def spWord : Sp := fun vs H Q _ => ∃ (a : Addr) (n : Str) (bd : List Tm), vs = [.ref a, .str n] ∧ BdAt H a bd ∧ BdOk bd ∧ n.length ≤ 100 ∧
  ∀ H', Same H H' → Q (.str (if (findK n (allK bd)).isSome = true then "told" else "refused")) H'
section
variable {P : Program} {w : World} {K : PySem.W.Frag} {mg : Str → Option Value} {base : Heap} {A : Ad}
theorem ok_word (T : Txt K mg A) : FnOk P w K mg base CX0 4 A.f_word A.d_word P_word spWord := by
  refine T.F_word.ok sc_word (fun vs H Q E h => ?_) (fun cdv A' outer s H vs Q E hr h => ?_)
  · obtain ⟨a, n, bd, rfl, _⟩ := h
    rfl
  · obtain ⟨a, n, bd, rfl, hb, ok, n100, k⟩ := h
    refine ⟨_, (pss_cons (ps_set (i := 2) sc_word.nd rfl (Or.inl rfl) pe_non)
    (pss_cons (ps_try_keep (i := 3) (j := 2) (tb := fun W => tDrop (tCallS (spEldest A) (WE W) (tCons (tVar 0) (tCons (tVar 1) tNil)))) rfl rfl rfl sc_word.nd rfl rfl rfl rfl ⟨rfl, T.g_NoKeeper, by decide⟩ ⟨rfl, T.g_NoThing, by decide⟩ ⟨rfl, T.g_NoTeam, by decide⟩ (by decide) (by decide) rfl (fun W pn xe tk _ => pss_one (ps_expr (by exact (pe_callS (ok_eldest T) (hr.mono (by decide)) rfl T.g_eldest T.F_eldest.kp T.b_eldest (fun σ => passAt tk σ) (by exact (pa_cons (pv 0) (pa_cons (pv 1) pa_nil))))))))
    (pss_cons (ps_if (pt_cmpR op_isN (pv 2) pe_non (nomark _))
      (pss_one (ps_ret pe_str))
      pss_nil)
    (pss_cons (ps_set (i := 4) sc_word.nd rfl (Or.inl rfl) (pe_callB call_isErrT (by rfl) T.n_isinstance (by decide +kernel) (pa_cons (pv 2) (pa_cons (pe_tup (pa_cons (pe_glob (v := .ref A.c_NoNumber) rfl T.g_NoNumber rfl) (pa_cons (pe_glob (v := .ref A.c_NoOrder) rfl T.g_NoOrder rfl) (pa_cons (pe_glob (v := .ref A.c_NoRoom) rfl T.g_NoRoom rfl) (pa_cons (pe_glob (v := .ref A.c_NoTeam) rfl T.g_NoTeam rfl) (pa_cons (pe_glob (v := .ref A.c_NoTelling) rfl T.g_NoTelling rfl) (pa_cons (pe_glob (v := .ref A.c_NoText) rfl T.g_NoText rfl) (pa_cons (pe_glob (v := .ref A.c_Nothing) rfl T.g_Nothing rfl) (pa_cons (pe_glob (v := .ref A.c_NoThing) rfl T.g_NoThing rfl) (pa_cons (pe_glob (v := .ref A.c_TooMany) rfl T.g_TooMany rfl) (pa_cons (pe_glob (v := .ref A.c_Twice) rfl T.g_Twice rfl) pa_nil))))))))))) pa_nil))))
    (pss_cons (ps_set (i := 5) sc_word.nd rfl (Or.inl rfl) (pe_and (pe_callB call_isErr (by rfl) T.n_isinstance (by decide +kernel) (pa_cons (pv 2) (pa_cons (pe_glob (v := .ref A.c_NoKeeper) rfl T.g_NoKeeper rfl) pa_nil))) (pe_and (pe_callB call_isErr (by rfl) T.n_isinstance (by decide +kernel) (pa_cons (pv 2) (pa_cons (pe_bltn (by rfl) T.n_LookupError (by decide +kernel) (show RelV (.ty "LookupError") (.type "LookupError") from rfl)) pa_nil))) (pe_one (pe_not (pe_callB call_isErr (by rfl) T.n_isinstance (by decide +kernel) (pa_cons (pv 2) (pa_cons (pe_bltn (by rfl) T.n_ValueError (by decide +kernel) (show RelV (.ty "ValueError") (.type "ValueError") from rfl)) pa_nil))))))))
    (pss_one (ps_ret (pe_ifExp (PW.pt (pw_and (pt_val (pv 5)) (pw_and1 (pt_not (pt_val (pv 4)))))) pe_str pe_str)))))))), ?_⟩
    refine ⟨_, rfl, _, rfl, a, n, bd, rfl, hb, ok, n100, fun kp hk H1 s1 => ?_, fun hn H1 s1 => ?_⟩
    · have q := k H1 s1
      rw [hk] at q
      exact ⟨_, rfl, rfl, _, rfl, q⟩
    · have q := k
      rw [hn] at q
      have C : ExcC K A.c_NoKeeper := ⟨T.hg, T.hk, T.hs, T.hd, T.ha, T.hn, T.ht, T.hm⟩
      refine ⟨rfl, ?_, fun e ne => ?_⟩
      · show PySem.W.exmAny K (.ref A.c_NoKeeper) [.ref A.c_NoKeeper, .ref A.c_NoThing, .ref A.c_NoTeam] = some true
        unfold PySem.W.exmAny
        rw [T.m_NoKeeper]
        unfold PySem.W.exmAny
        rw [T.m_NoThing]
        unfold PySem.W.exmAny
        rw [T.m_NoTeam]
        rfl
      · refine ⟨_, rfl, rfl, _, rfl, ?_⟩
        have dn : decide (V.ref e = V.non) = false := decide_eq_false fun z => nomatch z
        rw [dn]
        refine iteF ?_
        have he : (upd H1 e (Err (.ref A.c_NoKeeper) e)) e = some (Err (.ref A.c_NoKeeper) e) := upd_same
        refine ⟨_, rfl, (show 10 ≤ sizeLine by decide), fun tp ntp => ?_⟩
        have et : e ≠ tp := ne_of_none he ntp
        have he2 : ∀ o, (upd (upd H1 e (Err (.ref A.c_NoKeeper) e)) tp o) e = some (Err (.ref A.c_NoKeeper) e) := fun o => by rw [upd_ne et]; exact he
        have no : ∀ {b : Bool}, b = false → (b = true → (false : Bool) = true) := fun h1 h2 => by rw [h1] at h2; cases h2
        refine ⟨e, A.c_NoKeeper, tp, _, _, false, rfl, he2 _, C, upd_same, .cons (.own _) (.cons (.own _) (.cons (.own _) (.cons (.own _) (.cons (.own _) (.cons (.own _) (.cons (.own _) (.cons (.own _) (.cons (.own _) (.cons (.own _) .nil))))))))), ?_, ?_⟩
        · exact kitAny_cons T.o_NoNumber (fun _ => kitAny_cons T.o_NoOrder (fun _ => kitAny_cons T.o_NoRoom (fun _ => kitAny_cons T.o_NoTeam (fun _ => kitAny_cons T.o_NoTelling (fun _ => kitAny_cons T.o_NoText
            (fun _ => kitAny_cons T.o_Nothing (fun _ => kitAny_cons T.o_NoThing (fun _ => kitAny_cons T.o_TooMany (fun _ => kitAny_cons T.o_Twice (fun _ => kitAny_nil) (no rfl)) (no rfl)) (no rfl)) (no rfl)) (no rfl)) (no rfl)) (no rfl)) (no rfl)) (no rfl)) (no rfl)
        · refine ⟨_, rfl, e, A.c_NoKeeper, _, _, true, rfl, he2 _, C, .own _, kit_self, _, rfl, iteT ?_⟩
          refine ⟨_, rfl, e, A.c_NoKeeper, _, _, true, rfl, he2 _, C, .ty _, T.o_LookupError, _, rfl, iteT ?_⟩
          refine ⟨_, rfl, e, A.c_NoKeeper, _, _, false, rfl, he2 _, C, .ty _, T.o_ValueError, _, rfl, ?_⟩
          refine ⟨_, rfl, _, rfl, iteT ?_⟩
          refine ⟨_, rfl, _, rfl, ?_⟩
          exact q _ (same_over (same_over s1 (s1.free ne)) (s1.free ((same_new ne).free ntp)))
end
end My
namespace My
open PySem PySem.Spec PyProof.Rows L2
def spLaw (K : PySem.W.Frag) : Sp := fun vs H Q _ => ∃ (a : Addr) (ns : List Int), vs = [.ref a] ∧ SqL K H a (ns.map V.int) ∧ ns.length ≤ 63 ∧ ∀ H', Q (.bl true) H'
theorem nw_less (H H' : Hp) : Same (Nw H H') H' := fun c o h => (nw_some h).2
theorem find_some {n : Str} {ks : List Kp} (h : n ∈ ks.map (·.name)) : (findK n ks).isSome = true := by
  unfold findK
  rw [List.find?_isSome]
  obtain ⟨k, hk, e⟩ := List.mem_map.mp h
  exact ⟨k, hk, decide_eq_true e⟩
theorem find_none {n : Str} {ks : List Kp} (h : ¬ n ∈ ks.map (·.name)) : (findK n ks).isSome = false := by
  cases e : (findK n ks).isSome with
  | false => rfl
  | true =>
    unfold findK at e
    rw [List.find?_isSome] at e
    obtain ⟨k, hk, q⟩ := e
    exact absurd (List.mem_map.mpr ⟨k, hk, of_decide_eq_true q⟩) h
theorem flat_strs (ws : List Str) : (ws.map V.str).all flatV = true := by
  rw [List.all_eq_true]
  intro x hx
  obtain ⟨z, _, rfl⟩ := List.mem_map.mp hx
  rfl
theorem inV_strs (z : Str) (ws : List Str) : inV (.str z) (ws.map V.str) = decide (z ∈ ws) := by
  induction ws with
  | nil => rfl
  | cons a r ih =>
    unfold inV at ih ⊢
    rw [List.map_cons, List.any_cons, ih]
    show (a == z || decide (z ∈ r)) = decide (z ∈ a :: r)
    by_cases h : z = a
    · subst h
      rw [beq_self_eq_true, decide_eq_true List.mem_cons_self]
      rfl
    · have e : (a == z) = false := beq_eq_false_iff_ne.mpr fun q => h q.symm
      rw [e, Bool.false_or]
      by_cases m : z ∈ r
      · rw [decide_eq_true m, decide_eq_true (List.mem_cons_of_mem _ m)]
      · rw [decide_eq_false m, decide_eq_false fun q => (List.mem_cons.mp q).elim h m]
section
variable {P : Program} {w : World} {K : PySem.W.Frag} {mg : Str → Option Value} {base : Heap} {A : Ad}
theorem ok_law {f : Addr} {fd : FuncData} (F : Fun K "law" "law" s_law f fd) (T : Txt K mg A) : FnG P w K mg base CX0 9 f fd P_law (spLaw K) := by
  refine okG F sc_law (fun vs H Q E h => ?_) (fun cdv A' outer s H vs Q E gd hr h => ?_)
  · obtain ⟨a, ns, rfl, _⟩ := h
    rfl
  · obtain ⟨a, ns, rfl, hS, n63, k⟩ := h
    have gd : (A'.deeper (envOfC "law" (defScope s_law) s.heap.objs.size f cdv)).guards = some [] := gd
    refine ⟨_, (pss_cons (ps_set (i := 1) sc_law.nd rfl (Or.inl rfl) (pe_call (ok_bag T) (hr.mono (by decide)) rfl T.g_bag T.F_bag.kp T.b_bag .nil pass0 (pa_cons (pv 0) pa_nil)))
    (pss_cons (ps_for PassesOwn.never rfl (pi_range1 (by rfl) T.n_range (pa_cons pe_int pa_nil)) (pg_name (i := 2) sc_law.nd rfl (Or.inl rfl))
      (pss_cons (ps_set (i := 3) sc_law.nd rfl (Or.inl rfl) (pe_call (ok_board T) (hr.mono (by decide)) rfl T.g_board T.F_board.kp T.b_board .nil pass0 (pa_cons (pv 1) pa_nil)))
      (pss_cons (ps_set (i := 4) sc_law.nd rfl (Or.inl rfl) (pe_callB (call_repr gd hr.units) (by rfl) T.n_repr (by decide +kernel) (pa_cons (pv 3) pa_nil)))
      (pss_cons (ps_set (i := 5) sc_law.nd rfl (Or.inl rfl) (pe_lst pa_nil))
      (pss_cons (ps_set (i := 6) sc_law.nd rfl (Or.inl rfl) (pe_lst (pa_cons pe_str (pa_cons pe_str (pa_cons pe_str (pa_cons pe_str (pa_cons pe_str (pa_cons pe_str (pa_cons pe_str (pa_cons pe_str (pa_cons pe_str pa_nil)))))))))))
      (pss_cons (ps_for PassesOwn.never rfl (pi_listK (K := K) rfl (pv 3)) (pg_tup rfl (pgs_cons (pg_name (i := 7) sc_law.nd rfl (Or.inl rfl)) (pgs_cons (pg_name (i := 8) sc_law.nd rfl (Or.inl rfl)) pgs_nil)))
        (pss_one (ps_for PassesOwn.never rfl (pi_listK (K := K) rfl (pv 8)) (pg_tup rfl (pgs_cons (pg_name (i := 9) sc_law.nd rfl (Or.inl rfl)) (pgs_cons (pg_name (i := 10) sc_law.nd rfl (Or.inl rfl)) (pgs_cons (pg_name (i := 11) sc_law.nd rfl (Or.inl rfl)) (pgs_cons (pg_name (i := 12) sc_law.nd rfl (Or.inl rfl)) pgs_nil)))))
          (pss_cons (ps_expr (pe_K (K := K) rfl (pe_bm PySem.F.plainAttrs_list PySem.F.slot_list_append PySem.F.type_list_append mt_append (by exact (pv 5)) (by exact (pa_cons (pv 9) pa_nil)))))
          (pss_one (ps_set (i := 6) sc_law.nd rfl (Or.inl rfl) (pe_op op_cat (pe_op op_cat (pv 6) (pe_slice (sl_listK (K := K) rfl) (pv 12) po_none (po_some pe_int))) (pe_lst (pa_cons (pe_slice sl_str (pv 9) po_none (po_some (pe_un un_neg pe_int))) (pa_cons (pe_op op_add_str (pv 9) pe_str) (pa_cons (pe_upper (pv 9)) (pa_cons (pe_op op_add_str (pv 9) pe_str) (pa_cons (pe_slice sl_str (pv 9) (po_some pe_int) po_none) pa_nil)))))))))))))
      (pss_cons (ps_for PassesOwn.never rfl (pi_listK (K := K) rfl (pv 5)) (pg_name (i := 13) sc_law.nd rfl (Or.inl rfl))
        (pss_one (ps_if (pt_cmpR op_ne (pe_call (ok_word T) (hr.mono (by decide)) rfl T.g_word T.F_word.kp T.b_word .nil pass0 (pa_cons (pv 3) (pa_cons (pv 13) pa_nil))) pe_str (nomark _))
          (pss_one (ps_ret pe_bl))
          pss_nil)))
      (pss_cons (ps_for PassesOwn.never rfl (pi_listK (K := K) rfl (pv 6)) (pg_name (i := 13) sc_law.nd rfl (Or.inl rfl))
        (pss_one (ps_if (PW.pt (pw_and (pt_cmpR (notIn_seqK (K := K) rfl) (pv 13) (pv 5) (by rfl)) (pw_and1 (pt_cmpR op_ne (pe_call (ok_word T) (hr.mono (by decide)) rfl T.g_word T.F_word.kp T.b_word .nil pass0 (pa_cons (pv 3) (pa_cons (pv 13) pa_nil))) pe_str (nomark _)))))
          (pss_one (ps_ret pe_bl))
          pss_nil)))
      (pss_one (ps_if (pt_cmpR op_ne (pe_callB (call_repr gd hr.units) (by rfl) T.n_repr (by decide +kernel) (pa_cons (pv 3) pa_nil)) (pv 4) (nomark _))
        (pss_one (ps_ret pe_bl))
        pss_nil))))))))))
    (pss_one (ps_ret (pe_and (pe_cmpR op_eq (pe_call (ok_word T) (hr.mono (by decide)) rfl T.g_word T.F_word.kp T.b_word .nil pass0 (pa_cons (pe_lst pa_nil) (pa_cons pe_str pa_nil))) pe_str (nomark _)) (pe_one (pe_cmpR op_eq (pe_call (ok_word T) (hr.mono (by decide)) rfl T.g_word T.F_word.kp T.b_word .nil pass0 (pa_cons (pe_lst (pa_cons (pe_tup (pa_cons pe_int (pa_cons (pe_lst pa_nil) pa_nil))) pa_nil)) (pa_cons pe_str pa_nil))) pe_str (nomark _)))))))), ?_⟩
    refine ⟨_, rfl, a, ns, rfl, hS, n63, fun b l H1 nb nl B1 s1 => ?_⟩
    refine ⟨6, rfl, by decide, by decide, for_range (lo := 0) (n := 6) (fun i σ H' => Bag H' b l ∧ ∃ v2 v3 v4 v5 v6 v7 v8 v9 va vb vc vd, σ = [some (.ref a), some (.ref b), v2, v3, v4, v5, v6, v7, v8, v9, va, vb, vc, vd])
      ⟨B1, none, none, none, none, none, none, none, none, none, none, none, none, rfl⟩ ?_ ?_⟩
    · rintro i0 σ H2 hi ⟨B2, v2, v3, v4, v5, v6, v7, v8, v9, va, vb, vc, vd, rfl⟩
      -- board, kept
      refine ⟨_, rfl, b, l, rfl, B2, fun ad bd H3 ok hb B3 x3 => ?_⟩
      have hb3 := hb.same (nw_less _ _)
      have sh := shw_bd ok
      refine ⟨_, rfl, ad, dBd bd, rfl, dp_bd hb3, sh.s, sh.n, Nat.le_trans sh.p (by decide), bd_shown ok, ?_⟩
      -- there, some
      refine ⟨(show 0 ≤ sizeLine by decide), fun p1 np1 => ?_⟩
      refine ⟨(show 9 ≤ sizeLine by decide), fun p2 np2 => ?_⟩
      have s5 : Same H3 (upd (upd H3 p1 (.lst [])) p2 (.lst [V.str "", .str "A", .str "an bo", .str "abcdefghi", .str "5", .str "True", .str "an-", .str "~", .str "a\n"])) := (same_new np1).trans (same_new np2)
      have p12 : p1 ≠ p2 := ne_of_none upd_same np2
      obtain ⟨as, ha, pa⟩ := id hb3
      have al := pa.length
      have sz : ∀ n : Nat, n ≤ 1000 → n ≤ sizeLine := fun n h => Nat.le_of_lt (small1000 h)
      -- for least, keepers in board
      refine ⟨_, rfl, ad, rfl, ⟨_, SqL.of (s5 _ _ ha)⟩, for_list (K := K) (a := ad) (xs := as.map V.ref) (fun i σ H' => Same H3 H' ∧ H' p1 = some (.lst (((allK (bd.take i)).map (·.name)).map V.str)) ∧
          ∃ p ss, H' p = some (.lst (List.map V.str ss)) ∧ p ≠ p1 ∧ ss.length ≤ 9 + 7 * (allK (bd.take i)).length ∧ (∀ z ∈ ss, z.length ≤ 30) ∧
          ∃ v7 v8 v9 va vb vc vd, σ = [some (.ref a), some (.ref b), some (.int (0 + (i0 : Int))), some (.ref ad), some (.str (dBd bd).shown), some (.ref p1), some (.ref p), v7, v8, v9, va, vb, vc, vd])
        ⟨s5, by rw [upd_ne p12]; exact upd_same, p2, ["", "A", "an bo", "abcdefghi", "5", "True", "an-", "~", "a\n"], upd_same, p12.symm, (by show 9 ≤ _; omega), by decide +kernel, _, _, _, _, _, _, _, rfl⟩ (fun i σ H' _ z => SqL.of (z.1 _ _ ha)) ?_ ?_⟩
      · rintro i y σ H6 hi ⟨s6, h1, p, ss, h2, pp, sl, s30, v7, v8, v9, va, vb, vc, vd, rfl⟩
        obtain ⟨x, ex, rfl⟩ : ∃ x, as[i]? = some x ∧ y = V.ref x := by
          rw [List.getElem?_map] at hi
          cases e : as[i]? with
          | none =>
            rw [e] at hi
            cases hi
          | some x =>
            rw [e] at hi
            exact ⟨x, rfl, (Option.some.inj hi).symm⟩
        obtain ⟨t, et, c, cs, ht, hc, pc⟩ := paired_at pa ex
        have tok := ok.ok t (List.mem_of_getElem? et)
        have more := allK_more et
        have il := (List.getElem?_eq_some_iff.mp et).1
        have t3 := ok.t3
        have k8 := tok.k8
        have cl := pc.length
        have hl := allK_len (bd.take i) fun x hx => ok.ok x (List.mem_of_mem_take hx)
        rw [List.length_take] at hl
        refine ⟨x, _, rfl, SqT.of (s6 _ _ ht), rfl, _, _, rfl, _, _, rfl, rfl, ?_⟩
        refine ⟨_, rfl, c, rfl, ⟨_, SqL.of (s6 _ _ hc)⟩, for_list (K := K) (a := c) (xs := cs.map V.ref) (fun j σ H' => Same H3 H' ∧ H' p1 = some (.lst (((allK (bd.take i) ++ t.ks.take j).map (·.name)).map V.str)) ∧
            ∃ p ss, H' p = some (.lst (List.map V.str ss)) ∧ p ≠ p1 ∧ ss.length ≤ 9 + 7 * ((allK (bd.take i)).length + j) ∧ (∀ z ∈ ss, z.length ≤ 30) ∧
            ∃ v7 v8 v9 va vb vc vd, σ = [some (.ref a), some (.ref b), some (.int (0 + (i0 : Int))), some (.ref ad), some (.str (dBd bd).shown), some (.ref p1), some (.ref p), v7, v8, v9, va, vb, vc, vd])
          ⟨s6, by rw [List.take_zero, List.append_nil]; exact h1, p, ss, h2, pp, by omega, s30, _, _, _, _, _, _, _, rfl⟩ (fun j σ H' _ z => SqL.of (z.1 _ _ hc)) ?_ ?_⟩
        · rintro j y σ H7 hj ⟨s7, h1, p, ss, h2, pp, sl, s30, v7, v8, v9, va, vb, vc, vd, rfl⟩
          obtain ⟨kx, ekx, rfl⟩ : ∃ x, cs[j]? = some x ∧ y = V.ref x := by
            rw [List.getElem?_map] at hj
            cases e : cs[j]? with
            | none =>
              rw [e] at hj
              cases hj
            | some x =>
              rw [e] at hj
              exact ⟨x, rfl, (Option.some.inj hj).symm⟩
          obtain ⟨kp, ekp, r, hk, hrow⟩ := paired_at pc ekx
          have kok := tok.ok kp (List.mem_of_getElem? ekp)
          have jl := (List.getElem?_eq_some_iff.mp ekp).1
          have n8 := kok.n8.n8
          refine ⟨kx, _, rfl, SqT.of (s7 _ _ hk), rfl, _, _, rfl, _, _, rfl, _, _, rfl, _, _, rfl, rfl, ?_⟩
          -- there.append(name)
          have nl1 : (allK (bd.take i) ++ t.ks.take j).length ≤ 33 := by
            rw [List.length_append, List.length_take]
            omega
          refine ⟨_, rfl, .inl ⟨rfl, _, SqL.of h1⟩, _, rfl, p1, _, _, rfl, rfl, h1, by rw [List.length_map, List.length_map]; exact lt_size (m := 34) (by omega) (by decide), ?_⟩
          obtain ⟨H8, e8⟩ : ∃ H8, H8 = upd H7 p1 (.lst (((allK (bd.take i) ++ t.ks.take j).map (·.name)).map V.str ++ [.str kp.name])) := ⟨_, rfl⟩
          rw [← e8]
          have s8 : Same H3 H8 := by rw [e8]; exact same_over s7 np1
          have g1 : H8 p1 = some (.lst (((allK (bd.take i) ++ t.ks.take (j + 1)).map (·.name)).map V.str)) := by
            have e9 : t.ks.take (j + 1) = t.ks.take j ++ [kp] := by
              rw [List.take_succ, ekp]
              rfl
            rw [e8, upd_same, e9, ← List.append_assoc, List.map_append (l₂ := [kp]), List.map_append (f := V.str)]
            rfl
          have g2 : H8 p = some (.lst (List.map V.str ss)) := by rw [e8, upd_ne pp]; exact h2
          -- some = some + row[:2] + [..]
          obtain ⟨ys, ey, yl, ysub⟩ := cut_pre (f := V.str) (xs := kp.row) (k := 2)
          have ey' : cutV (kp.row.map V.str) none (some 2) = ys.map V.str := ey
          refine ⟨_, rfl, _, rfl, _, rfl, r, _, rfl, SqL.of (s8 _ _ hrow), fun q1 nq1 => ?_⟩
          rw [ey']
          have pq1 : p ≠ q1 := ne_of_none g2 nq1
          refine ⟨p, q1, _, _, rfl, rfl, by rw [upd_ne pq1]; exact g2, upd_same, by rw [List.length_map, List.length_map]; exact sz _ (by omega), fun q2 nq2 => ?_⟩
          refine ⟨_, rfl, 1, rfl, _, rfl, kp.name, rfl, sz _ (by omega), ?_⟩
          refine ⟨_, rfl, _, _, rfl, rfl, sz _ (by show _ + 1 ≤ _; omega), ?_⟩
          refine ⟨_, rfl, ⟨_, rfl⟩, kp.name, rfl, rfl, by omega, ?_⟩
          refine ⟨_, rfl, _, _, rfl, rfl, sz _ (by show _ + 1 ≤ _; omega), ?_⟩
          refine ⟨_, rfl, _, rfl, kp.name, rfl, sz _ (by omega), ?_⟩
          refine ⟨(show 5 ≤ sizeLine by decide), fun q3 nq3 => ?_⟩
          have q23 : q2 ≠ q3 := ne_of_none upd_same nq3
          refine ⟨q2, q3, _, _, rfl, rfl, by rw [upd_ne q23]; exact upd_same, upd_same, by rw [List.length_append, List.length_map, List.length_map]; exact sz _ (by show _ + _ + 5 ≤ _; omega), fun q4 nq4 => ?_⟩
          have c3 := fun o : HO => ((same_new (o := .lst (ys.map V.str)) nq1).trans (same_new (o := .lst (List.map V.str ss ++ List.map V.str ys)) nq2)).trans (same_new (o := o) nq3)
          refine ⟨s8.trans ((c3 _).trans (same_new nq4)), ((c3 _).trans (same_new nq4)) _ _ g1, q4, ss ++ ys ++ [cutS kp.name none (some (-1)), kp.name ++ "a", Txt.upper kp.name, kp.name ++ " ", cutS kp.name (some 1) none], ?_, (ne_of_none (c3 _ _ _ g1) nq4).symm, ?_, ?_, _, _, _, _, _, _, _, rfl⟩
          · rw [upd_same, List.map_append, List.map_append]
            rfl
          · rw [List.length_append, List.length_append]
            show _ + _ + 5 ≤ _
            omega
          · intro z hz
            rcases List.mem_append.mp hz with hz | hz
            · rcases List.mem_append.mp hz with hz | hz
              · exact s30 z hz
              · have := (kok.w8 z (ysub z hz)).n8
                omega
            · have c1 := cutS_length kp.name none (some (-1))
              have c2 := cutS_length kp.name (some 1) none
              have c3 := PyProof.Rows.len_upper kp.name
              have c4 : (kp.name ++ "a").length = kp.name.length + 1 := str_add _ _
              have c5 : (kp.name ++ " ").length = kp.name.length + 1 := str_add _ _
              simp only [List.mem_cons, List.not_mem_nil, or_false] at hz
              rcases hz with e | e | e | e | e <;> rw [e] <;> omega
        · rintro σ H7 ⟨s7, h1, p, ss, h2, pp, sl, s30, v7, v8, v9, va, vb, vc, vd, rfl⟩
          have e9 : t.ks.take cs.length = t.ks := List.take_of_length_le (by omega)
          rw [List.length_map, e9] at h1
          rw [List.length_map] at sl
          refine ⟨s7, by rw [more]; exact h1, p, ss, h2, pp, ?_, s30, _, _, _, _, _, _, _, rfl⟩
          rw [more, List.length_append]
          omega
      · rintro σ H6 ⟨s6, h1, p, ss, h2, pp, sl, s30, v7, v8, v9, va, vb, vc, vd, rfl⟩
        have e9 : bd.take as.length = bd := List.take_of_length_le (by omega)
        rw [List.length_map, e9] at h1 sl
        have t3 := ok.t3
        have hl := allK_len bd ok.ok
        -- for one in there
        refine ⟨_, rfl, p1, rfl, ⟨_, SqL.of h1⟩, for_list (K := K) (a := p1) (xs := ((allK bd).map (·.name)).map V.str) (fun i σ H' => Same H6 H' ∧ ∃ vd, σ = [some (.ref a), some (.ref b), some (.int (0 + (i0 : Int))), some (.ref ad), some (.str (dBd bd).shown), some (.ref p1), some (.ref p), v7, v8, v9, va, vb, vc, vd])
          ⟨Same.refl _, _, rfl⟩ (fun i σ H' _ z => SqL.of (z.1 _ _ h1)) ?_ ?_⟩
        · rintro i y σ H7 hi ⟨s7, vd, rfl⟩
          obtain ⟨z, hz, rfl⟩ := item_str hi
          have mem : z ∈ (allK bd).map (·.name) := List.mem_of_getElem? hz
          obtain ⟨kp, hkp, ez⟩ := List.mem_map.mp mem
          have zl : z.length ≤ 8 := by
            obtain ⟨t, ht, hk⟩ := List.mem_flatMap.mp hkp
            rw [← ez]
            exact ((ok.ok t ht).ok kp hk).n8.n8
          refine ⟨_, rfl, _, rfl, ad, z, bd, rfl, hb3.same (s6.trans s7), ok, by omega, fun H8 s8 => ⟨rfl, _, rfl, ?_⟩⟩
          refine iteNS (by rw [find_some mem]; rfl) ?_
          exact ⟨s7.trans s8, _, rfl⟩
        · rintro σ H7 ⟨s7, vd', rfl⟩
          -- for one in some
          refine ⟨_, rfl, p, rfl, ⟨_, SqL.of (s7 _ _ h2)⟩, for_list (K := K) (a := p) (xs := ss.map V.str) (fun i σ H' => Same H6 H' ∧ ∃ vd, σ = [some (.ref a), some (.ref b), some (.int (0 + (i0 : Int))), some (.ref ad), some (.str (dBd bd).shown), some (.ref p1), some (.ref p), v7, v8, v9, va, vb, vc, vd])
            ⟨s7, _, rfl⟩ (fun i σ H' _ z => SqL.of (z.1 _ _ h2)) ?_ ?_⟩
          · rintro i y σ H8 hi ⟨s8, vd, rfl⟩
            obtain ⟨z, hz, rfl⟩ := item_str hi
            have zl := s30 z (List.mem_of_getElem? hz)
            refine ⟨_, rfl, _, rfl, p1, _, rfl, .inl (SqL.of (s8 _ _ h1)), rfl, flat_strs _, _, rfl, ?_⟩
            rw [inV_strs]
            by_cases mem : z ∈ (allK bd).map (·.name)
            · rw [decide_eq_true mem]
              refine iteF ?_
              refine iteF ?_
              exact ⟨s8, _, rfl⟩
            · rw [decide_eq_false mem]
              refine iteT ?_
              refine ⟨_, rfl, _, rfl, ad, z, bd, rfl, hb3.same (s6.trans s8), ok, by omega, fun H9 s9 => ⟨rfl, _, rfl, ?_⟩⟩
              refine iteNS (by rw [find_none mem]; rfl) ?_
              exact ⟨s8.trans s9, _, rfl⟩
          · rintro σ H8 ⟨s8, vd'', rfl⟩
            -- repr(board) != kept
            refine ⟨_, rfl, ad, dBd bd, rfl, dp_bd (hb3.same (s6.trans s8)), sh.s, sh.n, Nat.le_trans sh.p (by decide), bd_shown ok, _, rfl, rfl, _, rfl, ?_⟩
            refine iteNS rfl ?_
            exact ⟨(B3.same s6).same s8, _, _, _, _, _, _, _, _, _, _, _, _, rfl⟩
    · rintro σ H2 ⟨B2, v2, v3, v4, v5, v6, v7, v8, v9, va, vb, vc, vd, rfl⟩
      have bd0 : BdOk [] := ⟨by decide, by intro t h; cases h⟩
      have bd1 : BdOk [⟨0, []⟩] := ⟨by decide, by
        intro t h
        cases List.mem_singleton.mp h
        exact ⟨by decide, by decide, by decide, by intro k h; cases h⟩⟩
      refine ⟨(show 0 ≤ sizeLine by decide), fun p np => ?_⟩
      refine ⟨p, "a", [], rfl, ⟨[], upd_same, .nil⟩, bd0, by decide +kernel, fun H3 s3 => ⟨rfl, _, rfl, ?_⟩⟩
      refine iteT ?_
      refine ⟨(show 0 ≤ sizeLine by decide), fun q nq => ⟨(show 2 ≤ sizeLine by decide), fun t nt => ⟨(show 1 ≤ sizeLine by decide), fun r nr => ?_⟩⟩⟩
      have qt : q ≠ t := ne_of_none upd_same nt
      have tr : t ≠ r := ne_of_none upd_same nr
      have qr : q ≠ r := ne_of_none (by rw [upd_ne qt]; exact upd_same) nr
      refine ⟨r, "a", [⟨0, []⟩], rfl, ⟨[t], upd_same, .cons ⟨q, [], by rw [upd_ne tr, upd_same], by rw [upd_ne qr, upd_ne qt, upd_same]; rfl, .nil⟩ .nil⟩, bd1, by decide +kernel, fun H4 s4 => ⟨rfl, ?_⟩⟩
      exact k H4
end
end My
namespace My
open PySem PySem.Spec PyProof.Rows L2
theorem all_mk {P : Program} {w : World} {K : PySem.W.Frag} {h : Heap} {mg : Str → Option Value} {fa f0 f1 f2 f3 f4 f5 f6 f7 f8 f9 c_NoKeeper c_NoNumber c_NoOrder c_NoRoom c_NoTeam c_NoTelling c_NoText c_Nothing c_NoThing c_TooMany c_Twice : Addr} (X : K.In h) (G : h.Ns mainGlobals mg) (hfa : mg "law" = some (.ref fa))
    {od0 an0 : Option Addr} {sl0 : Array (Option Value)} {oc0 kV0 dc0 pm0 cd0 ct0 : Value}
    {od1 an1 : Option Addr} {sl1 : Array (Option Value)} {oc1 kV1 dc1 pm1 cd1 ct1 : Value}
    {od2 an2 : Option Addr} {sl2 : Array (Option Value)} {oc2 kV2 dc2 pm2 cd2 ct2 : Value}
    {od3 an3 : Option Addr} {sl3 : Array (Option Value)} {oc3 kV3 dc3 pm3 cd3 ct3 : Value}
    {od4 an4 : Option Addr} {sl4 : Array (Option Value)} {oc4 kV4 dc4 pm4 cd4 ct4 : Value}
    {od5 an5 : Option Addr} {sl5 : Array (Option Value)} {oc5 kV5 dc5 pm5 cd5 ct5 : Value}
    {od6 an6 : Option Addr} {sl6 : Array (Option Value)} {oc6 kV6 dc6 pm6 cd6 ct6 : Value}
    {od7 an7 : Option Addr} {sl7 : Array (Option Value)} {oc7 kV7 dc7 pm7 cd7 ct7 : Value}
    {od8 an8 : Option Addr} {sl8 : Array (Option Value)} {oc8 kV8 dc8 pm8 cd8 ct8 : Value}
    {od9 an9 : Option Addr} {sl9 : Array (Option Value)} {oc9 kV9 dc9 pm9 cd9 ct9 : Value}
    (a0 : PySem.W.nsIn K mainGlobals "keepers_of" = some (some (.ref f0)))
    (l0 : K.lookup f0 = some ⟨oc0, od0, .func (PySem.W.fnOf "keepers_of" "keepers_of" (defArgs s_keepers_of) (defBody s_keepers_of) (defScope s_keepers_of) .none kV0 dc0 pm0 an0 cd0 ct0), sl0⟩)
    (c0 : PySem.W.codeIn K cd0 "keepers_of" = true)
    (k0 : PySem.W.keepIn K (.ref f0) = true)
    (a1 : PySem.W.nsIn K mainGlobals "keeper_called" = some (some (.ref f1)))
    (l1 : K.lookup f1 = some ⟨oc1, od1, .func (PySem.W.fnOf "keeper_called" "keeper_called" (defArgs s_keeper_called) (defBody s_keeper_called) (defScope s_keeper_called) .none kV1 dc1 pm1 an1 cd1 ct1), sl1⟩)
    (c1 : PySem.W.codeIn K cd1 "keeper_called" = true)
    (k1 : PySem.W.keepIn K (.ref f1) = true)
    (a2 : PySem.W.nsIn K mainGlobals "eldest" = some (some (.ref f2)))
    (l2 : K.lookup f2 = some ⟨oc2, od2, .func (PySem.W.fnOf "eldest" "eldest" (defArgs s_eldest) (defBody s_eldest) (defScope s_eldest) .none kV2 dc2 pm2 an2 cd2 ct2), sl2⟩)
    (c2 : PySem.W.codeIn K cd2 "eldest" = true)
    (k2 : PySem.W.keepIn K (.ref f2) = true)
    (a3 : PySem.W.nsIn K mainGlobals "_law_bag" = some (some (.ref f3)))
    (l3 : K.lookup f3 = some ⟨oc3, od3, .func (PySem.W.fnOf "_law_bag" "_law_bag" (defArgs s_bag) (defBody s_bag) (defScope s_bag) .none kV3 dc3 pm3 an3 cd3 ct3), sl3⟩)
    (c3 : PySem.W.codeIn K cd3 "_law_bag" = true)
    (k3 : PySem.W.keepIn K (.ref f3) = true)
    (a4 : PySem.W.nsIn K mainGlobals "_law_draw" = some (some (.ref f4)))
    (l4 : K.lookup f4 = some ⟨oc4, od4, .func (PySem.W.fnOf "_law_draw" "_law_draw" (defArgs s_draw) (defBody s_draw) (defScope s_draw) .none kV4 dc4 pm4 an4 cd4 ct4), sl4⟩)
    (c4 : PySem.W.codeIn K cd4 "_law_draw" = true)
    (k4 : PySem.W.keepIn K (.ref f4) = true)
    (a5 : PySem.W.nsIn K mainGlobals "_law_pool" = some (some (.ref f5)))
    (l5 : K.lookup f5 = some ⟨oc5, od5, .func (PySem.W.fnOf "_law_pool" "_law_pool" (defArgs s_pool) (defBody s_pool) (defScope s_pool) .none kV5 dc5 pm5 an5 cd5 ct5), sl5⟩)
    (c5 : PySem.W.codeIn K cd5 "_law_pool" = true)
    (k5 : PySem.W.keepIn K (.ref f5) = true)
    (a6 : PySem.W.nsIn K mainGlobals "_law_keeper" = some (some (.ref f6)))
    (l6 : K.lookup f6 = some ⟨oc6, od6, .func (PySem.W.fnOf "_law_keeper" "_law_keeper" (defArgs s_keeper) (defBody s_keeper) (defScope s_keeper) .none kV6 dc6 pm6 an6 cd6 ct6), sl6⟩)
    (c6 : PySem.W.codeIn K cd6 "_law_keeper" = true)
    (k6 : PySem.W.keepIn K (.ref f6) = true)
    (a7 : PySem.W.nsIn K mainGlobals "_law_board" = some (some (.ref f7)))
    (l7 : K.lookup f7 = some ⟨oc7, od7, .func (PySem.W.fnOf "_law_board" "_law_board" (defArgs s_board) (defBody s_board) (defScope s_board) .none kV7 dc7 pm7 an7 cd7 ct7), sl7⟩)
    (c7 : PySem.W.codeIn K cd7 "_law_board" = true)
    (k7 : PySem.W.keepIn K (.ref f7) = true)
    (a8 : PySem.W.nsIn K mainGlobals "_law_word" = some (some (.ref f8)))
    (l8 : K.lookup f8 = some ⟨oc8, od8, .func (PySem.W.fnOf "_law_word" "_law_word" (defArgs s_word) (defBody s_word) (defScope s_word) .none kV8 dc8 pm8 an8 cd8 ct8), sl8⟩)
    (c8 : PySem.W.codeIn K cd8 "_law_word" = true)
    (k8 : PySem.W.keepIn K (.ref f8) = true)
    (a9 : PySem.W.nsIn K mainGlobals "law" = some (some (.ref f9)))
    (l9 : K.lookup f9 = some ⟨oc9, od9, .func (PySem.W.fnOf "law" "law" (defArgs s_law) (defBody s_law) (defScope s_law) .none kV9 dc9 pm9 an9 cd9 ct9), sl9⟩)
    (c9 : PySem.W.codeIn K cd9 "law" = true)
    (k9 : PySem.W.keepIn K (.ref f9) = true)
    (gc_NoKeeper : PySem.W.nsIn K mainGlobals "NoKeeper" = some (some (.ref c_NoKeeper)))
    (gc_NoNumber : PySem.W.nsIn K mainGlobals "NoNumber" = some (some (.ref c_NoNumber)))
    (gc_NoOrder : PySem.W.nsIn K mainGlobals "NoOrder" = some (some (.ref c_NoOrder)))
    (gc_NoRoom : PySem.W.nsIn K mainGlobals "NoRoom" = some (some (.ref c_NoRoom)))
    (gc_NoTeam : PySem.W.nsIn K mainGlobals "NoTeam" = some (some (.ref c_NoTeam)))
    (gc_NoTelling : PySem.W.nsIn K mainGlobals "NoTelling" = some (some (.ref c_NoTelling)))
    (gc_NoText : PySem.W.nsIn K mainGlobals "NoText" = some (some (.ref c_NoText)))
    (gc_Nothing : PySem.W.nsIn K mainGlobals "Nothing" = some (some (.ref c_Nothing)))
    (gc_NoThing : PySem.W.nsIn K mainGlobals "NoThing" = some (some (.ref c_NoThing)))
    (gc_TooMany : PySem.W.nsIn K mainGlobals "TooMany" = some (some (.ref c_TooMany)))
    (gc_Twice : PySem.W.nsIn K mainGlobals "Twice" = some (some (.ref c_Twice)))
    (n_len : PySem.W.nsIn K mainGlobals "len" = some none)
    (n_abs : PySem.W.nsIn K mainGlobals "abs" = some none)
    (n_int : PySem.W.nsIn K mainGlobals "int" = some none)
    (n_list : PySem.W.nsIn K mainGlobals "list" = some none)
    (n_range : PySem.W.nsIn K mainGlobals "range" = some none)
    (n_repr : PySem.W.nsIn K mainGlobals "repr" = some none)
    (n_isinstance : PySem.W.nsIn K mainGlobals "isinstance" = some none)
    (n_LookupError : PySem.W.nsIn K mainGlobals "LookupError" = some none)
    (n_ValueError : PySem.W.nsIn K mainGlobals "ValueError" = some none)
    (x_NoKeeper : PySem.W.excIn K c_NoKeeper [.type "LookupError", .type "Exception", .type "BaseException", .type "object"] "LookupError.__new__" = true)
    (k_NoKeeper : PySem.W.keepIn K (.ref c_NoKeeper) = true)
    (bx_NoKeeper : PySem.W.subIn K (.ref c_NoKeeper) (.type "BaseException") = some true)
    (tx_NoKeeper : PySem.W.typeIn K (.ref c_NoKeeper) = some (.type "type"))
    (m_NoKeeper : PySem.W.exmOne K (.ref c_NoKeeper) (.ref c_NoKeeper) = some true)
    (m_NoThing : PySem.W.exmOne K (.ref c_NoKeeper) (.ref c_NoThing) = some false)
    (m_NoTeam : PySem.W.exmOne K (.ref c_NoKeeper) (.ref c_NoTeam) = some false)
    (o_NoNumber : PySem.W.kitOne K (.ref c_NoKeeper) (.ref c_NoNumber) = some false)
    (o_NoOrder : PySem.W.kitOne K (.ref c_NoKeeper) (.ref c_NoOrder) = some false)
    (o_NoRoom : PySem.W.kitOne K (.ref c_NoKeeper) (.ref c_NoRoom) = some false)
    (o_NoTeam : PySem.W.kitOne K (.ref c_NoKeeper) (.ref c_NoTeam) = some false)
    (o_NoTelling : PySem.W.kitOne K (.ref c_NoKeeper) (.ref c_NoTelling) = some false)
    (o_NoText : PySem.W.kitOne K (.ref c_NoKeeper) (.ref c_NoText) = some false)
    (o_Nothing : PySem.W.kitOne K (.ref c_NoKeeper) (.ref c_Nothing) = some false)
    (o_NoThing : PySem.W.kitOne K (.ref c_NoKeeper) (.ref c_NoThing) = some false)
    (o_TooMany : PySem.W.kitOne K (.ref c_NoKeeper) (.ref c_TooMany) = some false)
    (o_Twice : PySem.W.kitOne K (.ref c_NoKeeper) (.ref c_Twice) = some false)
    (o_LookupError : PySem.W.kitOne K (.ref c_NoKeeper) (.type "LookupError") = some true)
    (o_ValueError : PySem.W.kitOne K (.ref c_NoKeeper) (.type "ValueError") = some false)
    (hg : PySem.W.findIn K (.ref c_NoKeeper) "__getattribute__" = some (some (.builtin "BaseException.__getattribute__")))
    (hk : PySem.W.findIn K (.ref c_NoKeeper) "__getattr__" = some none)
    (hs : PySem.W.subIn K (.ref c_NoKeeper) (.type "BaseException") = some true)
    (hd : PySem.W.hasDictIn K c_NoKeeper = true)
    (ha : PySem.W.findIn K (.ref c_NoKeeper) "__class__" = some (some (.builtin "object.__class__")))
    (hn : PySem.W.specialIn K (.builtin "object.__class__") "__get__" = some (some (.builtin "getset_descriptor.__get__")))
    (ht : PySem.W.takesIn K (.builtin "object.__class__") = some true)
    (hm : PySem.W.mroIn K c_NoKeeper (.type "object") = some true) :
    ∃ fd : FuncData, (∀ (s : Shared) (v : Value), BindsTo s fd ⟨[v], []⟩ [("script", v)]) ∧ ∀ base : Heap, K.In base → base.Ns mainGlobals mg → FnG P w K mg base CX0 9 fa fd ["script"] (spLaw K) := by
  have e := hfa.symm.trans (PySem.W.mg_of X G a9)
  cases e
  have F0 := fun_mk (st := s_keepers_of) l0 c0 k0
  have F1 := fun_mk (st := s_keeper_called) l1 c1 k1
  have F2 := fun_mk (st := s_eldest) l2 c2 k2
  have F3 := fun_mk (st := s_bag) l3 c3 k3
  have F4 := fun_mk (st := s_draw) l4 c4 k4
  have F5 := fun_mk (st := s_pool) l5 c5 k5
  have F6 := fun_mk (st := s_keeper) l6 c6 k6
  have F7 := fun_mk (st := s_board) l7 c7 k7
  have F8 := fun_mk (st := s_word) l8 c8 k8
  have F9 := fun_mk (st := s_law) l9 c9 k9
  let A : Ad := { f_keepers_of := f0, d_keepers_of := PySem.W.fnOf "keepers_of" "keepers_of" (defArgs s_keepers_of) (defBody s_keepers_of) (defScope s_keepers_of) .none kV0 dc0 pm0 an0 cd0 ct0, f_keeper_called := f1, d_keeper_called := PySem.W.fnOf "keeper_called" "keeper_called" (defArgs s_keeper_called) (defBody s_keeper_called) (defScope s_keeper_called) .none kV1 dc1 pm1 an1 cd1 ct1, f_eldest := f2, d_eldest := PySem.W.fnOf "eldest" "eldest" (defArgs s_eldest) (defBody s_eldest) (defScope s_eldest) .none kV2 dc2 pm2 an2 cd2 ct2, f_bag := f3, d_bag := PySem.W.fnOf "_law_bag" "_law_bag" (defArgs s_bag) (defBody s_bag) (defScope s_bag) .none kV3 dc3 pm3 an3 cd3 ct3, f_draw := f4, d_draw := PySem.W.fnOf "_law_draw" "_law_draw" (defArgs s_draw) (defBody s_draw) (defScope s_draw) .none kV4 dc4 pm4 an4 cd4 ct4, f_pool := f5, d_pool := PySem.W.fnOf "_law_pool" "_law_pool" (defArgs s_pool) (defBody s_pool) (defScope s_pool) .none kV5 dc5 pm5 an5 cd5 ct5, f_keeper := f6, d_keeper := PySem.W.fnOf "_law_keeper" "_law_keeper" (defArgs s_keeper) (defBody s_keeper) (defScope s_keeper) .none kV6 dc6 pm6 an6 cd6 ct6, f_board := f7, d_board := PySem.W.fnOf "_law_board" "_law_board" (defArgs s_board) (defBody s_board) (defScope s_board) .none kV7 dc7 pm7 an7 cd7 ct7, f_word := f8, d_word := PySem.W.fnOf "_law_word" "_law_word" (defArgs s_word) (defBody s_word) (defScope s_word) .none kV8 dc8 pm8 an8 cd8 ct8, c_NoKeeper := c_NoKeeper, c_NoNumber := c_NoNumber, c_NoOrder := c_NoOrder, c_NoRoom := c_NoRoom, c_NoTeam := c_NoTeam, c_NoTelling := c_NoTelling, c_NoText := c_NoText, c_Nothing := c_Nothing, c_NoThing := c_NoThing, c_TooMany := c_TooMany, c_Twice := c_Twice }
  have T : Txt K mg A :=
    { F_keepers_of := F0, g_keepers_of := PySem.W.mg_of X G a0, b_keepers_of := F0.binds (ps := P_keepers_of) fun _ _ _ _ _ _ us hl => match us, hl with | [_], _ => rfl, F_keeper_called := F1, g_keeper_called := PySem.W.mg_of X G a1, b_keeper_called := F1.binds (ps := P_keeper_called) fun _ _ _ _ _ _ us hl => match us, hl with | [_, _], _ => rfl, F_eldest := F2, g_eldest := PySem.W.mg_of X G a2, b_eldest := F2.binds (ps := P_eldest) fun _ _ _ _ _ _ us hl => match us, hl with | [_, _], _ => rfl, F_bag := F3, g_bag := PySem.W.mg_of X G a3, b_bag := F3.binds (ps := P_bag) fun _ _ _ _ _ _ us hl => match us, hl with | [_], _ => rfl, F_draw := F4, g_draw := PySem.W.mg_of X G a4, b_draw := F4.binds (ps := P_draw) fun _ _ _ _ _ _ us hl => match us, hl with | [_, _], _ => rfl, F_pool := F5, g_pool := PySem.W.mg_of X G a5, b_pool := F5.binds (ps := P_pool) fun _ _ _ _ _ _ us hl => match us, hl with | [_, _], _ => rfl, F_keeper := F6, g_keeper := PySem.W.mg_of X G a6, b_keeper := F6.binds (ps := P_keeper) fun _ _ _ _ _ _ us hl => match us, hl with | [_, _, _], _ => rfl, F_board := F7, g_board := PySem.W.mg_of X G a7, b_board := F7.binds (ps := P_board) fun _ _ _ _ _ _ us hl => match us, hl with | [_], _ => rfl, F_word := F8, g_word := PySem.W.mg_of X G a8, b_word := F8.binds (ps := P_word) fun _ _ _ _ _ _ us hl => match us, hl with | [_, _], _ => rfl, n_len := PySem.W.mg_none_of X G n_len, n_abs := PySem.W.mg_none_of X G n_abs, n_int := PySem.W.mg_none_of X G n_int, n_list := PySem.W.mg_none_of X G n_list, n_range := PySem.W.mg_none_of X G n_range, n_repr := PySem.W.mg_none_of X G n_repr, n_isinstance := PySem.W.mg_none_of X G n_isinstance, n_LookupError := PySem.W.mg_none_of X G n_LookupError, n_ValueError := PySem.W.mg_none_of X G n_ValueError, g_NoKeeper := PySem.W.mg_of X G gc_NoKeeper, g_NoNumber := PySem.W.mg_of X G gc_NoNumber, g_NoOrder := PySem.W.mg_of X G gc_NoOrder, g_NoRoom := PySem.W.mg_of X G gc_NoRoom, g_NoTeam := PySem.W.mg_of X G gc_NoTeam, g_NoTelling := PySem.W.mg_of X G gc_NoTelling, g_NoText := PySem.W.mg_of X G gc_NoText, g_Nothing := PySem.W.mg_of X G gc_Nothing, g_NoThing := PySem.W.mg_of X G gc_NoThing, g_TooMany := PySem.W.mg_of X G gc_TooMany, g_Twice := PySem.W.mg_of X G gc_Twice, x_NoKeeper := x_NoKeeper, k_NoKeeper := k_NoKeeper, bx_NoKeeper := bx_NoKeeper, tx_NoKeeper := tx_NoKeeper, m_NoKeeper := m_NoKeeper, m_NoThing := m_NoThing, m_NoTeam := m_NoTeam, o_NoNumber := o_NoNumber, o_NoOrder := o_NoOrder, o_NoRoom := o_NoRoom, o_NoTeam := o_NoTeam, o_NoTelling := o_NoTelling, o_NoText := o_NoText, o_Nothing := o_Nothing, o_NoThing := o_NoThing, o_TooMany := o_TooMany, o_Twice := o_Twice, o_LookupError := o_LookupError, o_ValueError := o_ValueError, hg := hg, hk := hk, hs := hs, hd := hd, ha := ha, hn := hn, ht := ht, hm := hm }
  exact ⟨PySem.W.fnOf "law" "law" (defArgs s_law) (defBody s_law) (defScope s_law) .none kV9 dc9 pm9 an9 cd9 ct9, fun s v => .of_eq rfl, fun base _ _ => ok_law F9 T⟩
theorem walk {l : PySem.W.OpenLaw} {q : Program} {loose : List Str} {XP : (Str → Option Value) → Heap → Prop} {YP : World → Heap → Prop} {d : DefRec} {K : Params → PySem.W.Frag} (hn : l.most = some 63) (hdf : d.params.defaults = [])
    (hY : ∀ (w : World) (h : Heap), YP w h → (K w.params).In h)
    (F : ∀ (w : World) (mg : Str → Option Value) (fa : Addr) (h : Heap), (K w.params).In h → h.Ns mainGlobals mg → mg d.name = some (.ref fa) →
      ∃ fd : FuncData, (∀ (s : Shared) (v : Value), BindsTo s fd ⟨[v], []⟩ [("script", v)]) ∧ ∀ base : Heap, (K w.params).In base → base.Ns mainGlobals mg → FnG l.prog w (K w.params) mg base CX0 9 fa fd ["script"] (spLaw (K w.params))) :
    PySem.W.WalkO q loose XP YP l.row.toRowW d [] (fun f vs => PySem.call f vs) :=
  walk_ofG (n := 63) (k := 9) (x := "script") (CX := fun _ => CX0) (sp := fun w => spLaw (K w.params)) hn (by decide) hdf ⟨rfl, by decide, by decide⟩ hY F
    (fun _ _ a ns hl _ hS => ⟨a, ns, rfl, hS, hl, fun _ => rfl⟩) fun _ _ _ _ _ z => z
end My
open PySem PySem.W PyProof.Rows
set_option maxRecDepth 100000 in
set_option maxHeartbeats 0 in
theorem PySem.Challenge.cw_dimkeepers_k04_no_such_keeper_holds : PySem.Challenge.rw_dimkeepers_k04_no_such_keeper.Holds := by
  w_on; o_law; k_head; (case hw => w_witness2)
  k_fill
  refine My.walk (l := PySem.Challenge.rw_dimkeepers_k04_no_such_keeper) rfl rfl (fun w h Y => PySem.W.kIn_of Y) ?F
  case F =>
    intro w mg fa h KX G hmg
    refine' My.all_mk KX G hmg ?a0 ?l0 ?c0 ?k0 ?a1 ?l1 ?c1 ?k1 ?a2 ?l2 ?c2 ?k2 ?a3 ?l3 ?c3 ?k3 ?a4 ?l4 ?c4 ?k4 ?a5 ?l5 ?c5 ?k5 ?a6 ?l6 ?c6 ?k6 ?a7 ?l7 ?c7 ?k7 ?a8 ?l8 ?c8 ?k8 ?a9 ?l9 ?c9 ?k9 ?gc_NoKeeper ?gc_NoNumber ?gc_NoOrder ?gc_NoRoom ?gc_NoTeam ?gc_NoTelling ?gc_NoText ?gc_Nothing ?gc_NoThing ?gc_TooMany ?gc_Twice ?n_len ?n_abs ?n_int ?n_list ?n_range ?n_repr ?n_isinstance ?n_LookupError ?n_ValueError ?x_NoKeeper ?k_NoKeeper ?bx_NoKeeper ?tx_NoKeeper ?m_NoKeeper ?m_NoThing ?m_NoTeam ?o_NoNumber ?o_NoOrder ?o_NoRoom ?o_NoTeam ?o_NoTelling ?o_NoText ?o_Nothing ?o_NoThing ?o_TooMany ?o_Twice ?o_LookupError ?o_ValueError ?hg ?hk ?hs ?hd ?ha ?hn ?ht ?hm
    (case a0 => k_is)
    (case l0 => k_is)
    (case c0 => k_is)
    (case k0 => k_is)
    (case a1 => k_is)
    (case l1 => k_is)
    (case c1 => k_is)
    (case k1 => k_is)
    (case a2 => k_is)
    (case l2 => k_is)
    (case c2 => k_is)
    (case k2 => k_is)
    (case a3 => k_is)
    (case l3 => k_is)
    (case c3 => k_is)
    (case k3 => k_is)
    (case a4 => k_is)
    (case l4 => k_is)
    (case c4 => k_is)
    (case k4 => k_is)
    (case a5 => k_is)
    (case l5 => k_is)
    (case c5 => k_is)
    (case k5 => k_is)
    (case a6 => k_is)
    (case l6 => k_is)
    (case c6 => k_is)
    (case k6 => k_is)
    (case a7 => k_is)
    (case l7 => k_is)
    (case c7 => k_is)
    (case k7 => k_is)
    (case a8 => k_is)
    (case l8 => k_is)
    (case c8 => k_is)
    (case k8 => k_is)
    (case a9 => k_is)
    (case l9 => k_is)
    (case c9 => k_is)
    (case k9 => k_is)
    (case gc_NoKeeper => k_is)
    (case gc_NoNumber => k_is)
    (case gc_NoOrder => k_is)
    (case gc_NoRoom => k_is)
    (case gc_NoTeam => k_is)
    (case gc_NoTelling => k_is)
    (case gc_NoText => k_is)
    (case gc_Nothing => k_is)
    (case gc_NoThing => k_is)
    (case gc_TooMany => k_is)
    (case gc_Twice => k_is)
    (case n_len => k_is)
    (case n_abs => k_is)
    (case n_int => k_is)
    (case n_list => k_is)
    (case n_range => k_is)
    (case n_repr => k_is)
    (case n_isinstance => k_is)
    (case n_LookupError => k_is)
    (case n_ValueError => k_is)
    (case x_NoKeeper => k_exc)
    (case k_NoKeeper => k_is)
    (case bx_NoKeeper => k_is)
    (case tx_NoKeeper => k_is)
    (case m_NoKeeper => exact PySem.W.exm_ref (by k_is) (by k_is) (by k_is) (by first | rfl | k_is))
    (case m_NoThing => exact PySem.W.exm_ref (by k_is) (by k_is) (by k_is) (by first | rfl | k_is))
    (case m_NoTeam => exact PySem.W.exm_ref (by k_is) (by k_is) (by k_is) (by first | rfl | k_is))
    (case o_NoNumber => exact My.kit_own (by rfl) (by k_is) (by k_is) (by k_is))
    (case o_NoOrder => exact My.kit_own (by rfl) (by k_is) (by k_is) (by k_is))
    (case o_NoRoom => exact My.kit_own (by rfl) (by k_is) (by k_is) (by k_is))
    (case o_NoTeam => exact My.kit_own (by rfl) (by k_is) (by k_is) (by k_is))
    (case o_NoTelling => exact My.kit_own (by rfl) (by k_is) (by k_is) (by k_is))
    (case o_NoText => exact My.kit_own (by rfl) (by k_is) (by k_is) (by k_is))
    (case o_Nothing => exact My.kit_own (by rfl) (by k_is) (by k_is) (by k_is))
    (case o_NoThing => exact My.kit_own (by rfl) (by k_is) (by k_is) (by k_is))
    (case o_TooMany => exact My.kit_own (by rfl) (by k_is) (by k_is) (by k_is))
    (case o_Twice => exact My.kit_own (by rfl) (by k_is) (by k_is) (by k_is))
    (case o_LookupError => exact My.kit_typ (by decide +kernel) (by k_is))
    (case o_ValueError => exact My.kit_typ (by decide +kernel) (by k_is))
    (case hg => k_is)
    (case hk => k_is)
    (case hs => k_is)
    (case hd => k_is)
    (case ha => k_is)
    (case hn => k_is)
    (case ht => k_is)
    (case hm => k_is)
