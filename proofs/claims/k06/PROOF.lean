import PyProof.Rows.All
import Wide.All
import OpenK.AllK
import Wide.FinOn
import PyProof.ReprRoads
import HandS.ForMost
import HandS.ForExc
import HandS.Wide
import HandS.IsInst
import HandS.ExcIs
import HandS.ExcValue
import HandS.RaiseMore
import HandS.FStr
import HandS.Set
import HandS.SetFor
import HandS.SortInts
import HandS.SetBool
import PyProof.StrLaws
import HandS.GenOver
import PyProof.WalksS
import PyProof.ConsumeS
import HandS.AnyAll
import KE.KRevSl
import PyProof.Rows.SeqMore
import HandS.EndOwn
import KE.KNest
import HandS.SetKeys
import HandS.TupLe
import PySem.Challenge.RW_dimkeepers_k06_whole_mended_one_by_one
set_option Elab.async false
set_option linter.all false
set_option maxRecDepth 100000
set_option maxHeartbeats 8000000
/-! rules of my own: powers of great ints; defs that are called where nothing is being shown (so that repr runs); repr of data -/
namespace My
open PySem PySem.Spec PyProof.Rows L2
/-! ### powers -/
section
variable {X : Cx}
def PowFit (i j : Int) : Prop := 0 ≤ j ∧ (Builtin.Int.intBits i : Int) * j ≤ 2 ^ 27
theorem op_powW : OpR X (binaryOp .Pow) (rI PowFit fun i j => .int (i ^ j.toNat)) :=
  opI fun _ _ _ _ _ _ _ fit q => pow_int fit.1 fit.2 q
end
/-! ### a def's promise where nothing is being shown -/
structure FnG (P : Program) (w : World) (K : PySem.W.Frag) (mg : Str → Option Value) (base : Heap)
    (CX : CXT) (k : Nat) (f : Addr) (fd : FuncData) (ps : List Str) (sp : Sp) : Prop where
  arity : ∀ vs H Q E, sp vs H Q E → vs.length = ps.length
  go : ∀ (A : Around) (outer : List Env) (s : Shared) (H : Hp) (args : Args) (us : List Value) (vs : List V)
    (Q : VK) (E : XK), A.guards = some [] → Room k A → Env0 P w K mg base A outer s H →
    BindsTo s fd args (ps.zip us) → Vals vs us → sp vs H Q E →
    codeAny (model P w) A (.call (.ref f) args) (CR CX outer P w H s Q E) s
section
variable {P : Program} {w : World} {K : PySem.W.Frag} {mg : Str → Option Value} {base : Heap}
theorem okG {CX : CXT} {x qual : Str} {st : Stmt} {f : Addr} {fd : FuncData} {N ps : List Str} {k : Nat} {sp : Sp}
    (F : Fun K x qual st f fd) (S : FnScope N ps (defScope st))
    (arity : ∀ vs H Q E, sp vs H Q E → vs.length = ps.length)
    (body : ∀ (cdv : Value) (A : Around) (outer : List Env) (s : Shared) (H : Hp) (vs : List V) (Q : VK) (E : XK),
      A.guards = some [] → Room k (A.deeper (envOfC qual (defScope st) s.heap.objs.size f cdv)) → sp vs H Q E →
      ∃ t, PSs (cxOf CX P w K mg base N qual (defScope st) f cdv A outer s H E).nox (defBody st) t ∧
        t { nx := fun _ H' => Q .non H', rt := Q } (start N vs) H) :
    FnG P w K mg base CX (k + 1) f fd ps sp := by
  obtain ⟨oc, od, kV, doc, pm, an, cdv, ct, osl, rfl, lk, hcd⟩ := F.ex
  refine ⟨arity, fun A outer s H args us vs Q E gd room e0 bnd rv want => ?_⟩
  have al := arity _ _ _ _ want
  have stay : ∀ b o, base.get? b = some o → s.heap.get? b = some o := fun b o e => (e0.bs b o e).1
  have inK : K.In s.heap := e0.mod.kin.keeps stay
  have nolim : s.heap.NoLimit := e0.mod.nolimit.keeps stay
  have kinds : ∀ y ∈ ps.zip us, (defScope st).names.lookup y.1 = some .local ∨
      ((defScope st).names.lookup y.1 = some .cell ∧
        ((cellsFrom (s.heap.objs.size + 1) (defScope st).names []).lookup y.1).isSome = true) := by
    rintro ⟨n, v⟩ hy
    rcases S.par n (List.of_mem_zip hy).1 with q | q
    · exact .inl q
    · exact .inr ⟨q, PySem.W.cellsFrom_some _ _ _ (.inl q)⟩
  refine codeAny_call_function room.depth (inK _ _ lk) rfl S.co S.gen rfl
    (PySem.W.codeRec_of inK hcd) (bnd _ _ _ _ ?_)
  refine wpAny_newFunctionEnv_cells S.kind kinds fun env he s1 x => ?_
  subst he
  refine ⟨nolim.keeps x.toInCall.keep, codeAny_func ?_⟩
  obtain ⟨t, ht0, hq⟩ := body cdv A outer s H vs Q E gd (room.deeper _) want
  have ht := ht0.nox
  have I := inv_start (E := E) (CX := CX) S room.hd e0 al rv x
  refine wpAny_mono (ht.run [] s1 (start N vs) H _ I hq) (fun fl s' hs => ?_) fun e s' hs => hs
  cases fl with
  | ret u =>
    obtain ⟨v, σ', H', J, rv', q⟩ := hs
    exact ⟨v, H', J.os, J.bare, J.base, J.hok, rv', q⟩
  | next =>
    obtain ⟨σ', H', J, q⟩ := hs
    exact ⟨V.non, H', J.os, J.bare, J.base, J.hok, rfl, q⟩
  | brk => exact hs.elim fun _ z => z.elim fun _ z => z.2.elim
  | cont => exact hs.elim fun _ z => z.elim fun _ z => z.2.elim
end
/-! ### its call from such a def -/
section
variable {X : Cx} {CX : CXT} {k : Nat} {f : Addr} {fd : FuncData} {ps : List Str} {sp : Sp} {E : XK} {x : Str}
  {p pos : Pos} {e : Expr} {es : List Expr} {t : TA}
theorem run_fnG {pins : List (Addr × Obj)} {σ : L2.St} {H : Hp} {s : Shared} {Q : VK} {us : List Value} {vs : List V}
    (F : FnG X.prog X.w X.K X.mg X.base CX k f fd ps sp) (gd : X.A.guards = some []) (room : Room k X.A)
    (bnd : Binds X.K fd ps []) (pass : Passes CX X E) (I : Inv X pins σ H s) (r : Vals vs us) (h : sp vs H Q E) :
    wpAny (model X.prog X.w) X.A (call (.ref f) us) (EP X pins σ Q) X.xe s := by
  have al : (us ++ []).length = ps.length := by
    rw [List.append_nil, ← r.length]
    exact F.arity _ _ _ _ h
  have b := bnd s us I.kIn al
  rw [List.append_nil] at b
  refine wpAny_call (codeAny_mono (F.go X.A X.stack s H ⟨us, []⟩ us vs Q E gd room I.env0 b r h) fun out s' hq => ?_)
  rcases out with e | fl
  · exact pass pins σ H s e s' I hq
  · cases fl with
    | ret u => exact I.after hq
    | next => exact hq.elim
    | brk => exact hq.elim
    | cont => exact hq.elim
theorem pe_callG (F : FnG X.prog X.w X.K X.mg X.base CX k f fd ps sp) (gd : X.A.guards = some [])
    (room : Room k X.A) (hg : Gl X x) (hm : X.mg x = some (.ref f)) (kp : PySem.W.keepIn X.K (.ref f) = true)
    (bnd : Binds X.K fd ps []) (pass : Passes CX X E) (ha : PA X (e :: es) t)
    (hdb : (x == ("__debug__" : Str)) = false := by decide)
    (he : starEach (e :: es) X.env = (false, eval e X.env) :: starEach es X.env := by rfl)
    (hpl : (backTo pos (starEach es X.env)).any (·.1) = false := by rfl) :
    PE X (.Call (.Name x p) (e :: es) [] pos) (fun σ H Q => t σ H fun vs H1 => sp vs H1 Q E) := by
  refine ⟨fun pins s σ H Q I h => ?_⟩
  refine wpAny_Call_Name_kw (ld_glob I hg hm ?_ hdb)
  refine PySem.W.callWith_K (h₀ := X.base) I.ok.mod.kin kp ?_ he hpl
  refine thn (ha.run pos pins s σ H _ I h) fun us s1 z => ?_
  obtain ⟨vs, H1, I1, r, q⟩ := z
  exact ⟨I1.kIn, run_fnG F gd room bnd pass I1 r q⟩
end
/-! ### repr of a list or a tuple of data -/
section
variable {X : Cx}
def rRepr (K : PySem.W.Frag) : List V → Hp → VK → Prop := fun xs H Q => ∃ (a : Addr) (d : PyData),
  xs = [.ref a] ∧ Dp K H (.ref a) d ∧ d.showable = true ∧ d.hasDict = false ∧ d.depth ≤ 60 ∧
  d.shown.length ≤ sizeLine ∧ Q (.str d.shown) H
theorem call_repr (gd : X.A.guards = some []) (hu : X.A.units + 64 < cLine) :
    CallR X (.builtin "repr") (rRepr X.K) := by
  intro pins s σ H xs us Q I r h
  obtain ⟨a, d, rfl, hd, hs, hn, hp, hz, q⟩ := h
  obtain ⟨u, rfl, ru⟩ := vals1 r
  cases (show u = Value.ref a from ru)
  obtain ⟨as, R⟩ := Dp.reads I d (.ref a) (.ref a) hd rfl
  refine repr_of_reads' (h₀ := s.heap) R hs (PyData.noDict_hsm hn) gd (by omega) (fun _ _ e => e) ?_ hz
  exact fun h' t tk kept => ⟨.str d.shown, H, I.kept kept, ⟨t, rfl⟩, q⟩
end
/-! ### the law's own call -/
theorem law_callG {P : Program} {w : World} {K : PySem.W.Frag} {mg mb : Str → Option Value} {CX : CXT} {k : Nat}
    {fa a : Addr} {fd : FuncData} {x : Str} {sp : Sp} {s₁ : Shared} {vs : List Value} {ns : List Int}
    (inK : K.In s₁.heap) (hns : s₁.heap.Ns mainGlobals mg) (hb : s₁.heap.Ns builtinsNs mb)
    (hbb : ∀ x : Str, x ≠ "__name__" → mb x = bootBuiltins x) (hlim : s₁.heap.NoLimit) (hgen : s₁.gens = #[])
    (ha : s₁.heap.get? a = some { cls := .type "list", data := .seq vs.toArray }) (hi : IntsAre vs ns)
    (hl : ns.length ≤ sizeLine) (room : Room k callerA)
    (F : ∀ base : Heap, K.In base → base.Ns mainGlobals mg → FnG P w K mg base CX k fa fd [x] sp)
    (bnd : ∀ (s : Shared) (u : Value), BindsTo s fd ⟨[u], []⟩ [(x, u)])
    (hsp : ∀ H : Hp, Only H → SqL K H a (ns.map V.int) → sp [.ref a] H (fun v _ => v = .bl true) fun _ _ _ => False)
    (hCX : ∀ H e s', CX [] H s₁ (fun _ _ _ => False) e s' → False) :
    codeAny (model P w) callerA (.call (.ref fa) ⟨[.ref a], []⟩)
      (fun r s' => r = .ok (.ret (.bool true)) ∧ OldK s₁.heap s'.heap ∧ s'.os = s₁.os ∧ AllBare s'.gens) s₁ := by
  have rv := vals_ints hi
  have key : ∀ H : Hp, Only H → SqL K H a (ns.map V.int) → HOk P w H s₁.heap → (∀ b, H b ≠ none → b = a) →
      (H a ≠ none → K.lookup a = none) → codeAny (model P w) callerA (.call (.ref fa) ⟨[.ref a], []⟩)
        (fun r s' => r = .ok (.ret (.bool true)) ∧ OldK s₁.heap s'.heap ∧ s'.os = s₁.os ∧ AllBare s'.gens) s₁ := by
    intro H only sq ok one notK
    have at_a : ∀ {b : Addr} {u : HO}, H b = some u → b = a := fun {b u} q => one b fun z => by
      rw [q] at z
      cases z
    have plain : ∀ {b : Addr} {m : Str → Option Value}, s₁.heap.Ns b m → (hidT s₁.heap H).Ns b m := by
      rintro b m ⟨o, es, ep, e, d, r⟩
      refine ⟨o, es, ep, hidT_get e ?_, d, r⟩
      cases q : H b with
      | none => rfl
      | some u =>
        cases at_a q
        cases ha.symm.trans e
        have bad : Data.seq vs.toArray _ = Data.dict es ep := d
        cases bad
    have kb : K.In (hidT s₁.heap H) := fun b o e => hidT_get (inK b o e) (by
      cases q : H b with
      | none => rfl
      | some u =>
        cases at_a q
        have z := notK (by rw [q]; simp)
        rw [e] at z
        cases z)
    have md : Mod K mg (hidT s₁.heap H) :=
      ⟨kb, plain hns, ⟨mb, plain hb, hbb⟩, hlim.elim fun mc z => ⟨mc, plain z.1, z.2⟩⟩
    have e0 : Env0 P w K mg (hidT s₁.heap H) callerA [] s₁ H :=
      ⟨rfl, md, fun b o e => of_hidT e, Nat.le_of_eq (hidT_size _ _), trivial, (by intro b z; cases z), ok, .of_eq hgen⟩
    have run := (F _ kb (plain hns)).go callerA [] s₁ H ⟨[.ref a], []⟩ [.ref a] [.ref a] _ _ rfl room e0
      (bnd s₁ (.ref a)) (.cons rfl .nil) (hsp H only sq)
    refine codeAny_mono run fun out s' h => ?_
    rcases out with e | fl
    · exact (hCX H e s' h).elim
    · cases fl with
      | next => exact h.elim
      | brk => exact h.elim
      | cont => exact h.elim
      | ret u =>
        obtain ⟨v, H', os, bare, un, ok', r', q⟩ := h
        cases (show v = .bl true from q)
        cases (show u = Value.bool true from r')
        refine ⟨rfl, OldK.of_keep fun b o e => ?_, os, bare⟩
        rcases only b with z | ⟨ob, xs, z⟩
        · exact un.keep b o e z (by intro y; cases y) (by intro y; cases y)
        · have z2 := un.frzs b ob _ z
          obtain ⟨e1, _⟩ := ok b _ z
          obtain ⟨e2, _⟩ := ok' b _ z2
          rw [e] at e1
          cases e1
          exact e2
  cases hk : K.lookup a with
  | some o =>
    have e := inK a o hk
    rw [ha] at e
    cases e
    refine key (fun _ => none) (fun _ => .inl rfl) ?_ ?_ ?_ ?_
    · exact .inr ⟨_, vs.toArray, _, hk, rfl, rfl, rfl, by rw [List.size_toArray, hi.length]; exact hl, by simpa using rv⟩
    · intro b u z
      have z' : (none : Option HO) = some u := z
      cases z'
    · exact fun b z => absurd rfl z
    · exact fun z => absurd rfl z
  | none =>
    let ob : Obj := { cls := .type "list", data := .seq vs.toArray }
    let H : Hp := fun b => if b = a then some (.frz ob (.lst (ns.map V.int))) else none
    have here : H a = some (.frz ob (.lst (ns.map V.int))) := if_pos rfl
    have away : ∀ b, b ≠ a → H b = none := fun b z => if_neg z
    refine key H (fun b => ?_) (.inl (.inr ⟨ob, here⟩)) (fun b u z => ?_) (fun b z => ?_) fun _ => hk
    · by_cases hb : b = a
      · subst hb
        exact .inr ⟨_, _, here⟩
      · exact .inl (away b hb)
    · by_cases hb : b = a
      · subst hb
        rw [here] at z
        cases z
        exact ⟨ha, by rw [List.length_map]; exact hl, vs, _, rv, ha⟩
      · rw [away b hb] at z
        cases z
    · by_cases hb : b = a
      · exact hb
      · exact absurd (away b hb) z
theorem walk_ofG {l : PySem.W.OpenLaw} {n k : Nat} {q : Program} {loose : List Str} {XP : (Str → Option Value) → Heap → Prop}
    {YP : World → Heap → Prop} {d : DefRec} {K : Params → PySem.W.Frag} {CX : World → CXT} {sp : World → Sp} {x : Str}
    (hn : l.most = some n) (hn2 : n ≤ sizeLine) (hdf : d.params.defaults = []) (room : Room k callerA)
    (hY : ∀ (w : World) (h : Heap), YP w h → (K w.params).In h)
    (F : ∀ (w : World) (mg : Str → Option Value) (fa : Addr) (h : Heap), (K w.params).In h → h.Ns mainGlobals mg →
      mg d.name = some (.ref fa) → ∃ fd : FuncData, (∀ (s : Shared) (u : Value), BindsTo s fd ⟨[u], []⟩ [(x, u)]) ∧
        ∀ base : Heap, (K w.params).In base → base.Ns mainGlobals mg → FnG l.prog w (K w.params) mg base (CX w) k fa fd [x] (sp w))
    (hsp : ∀ (w : World) (H : Hp) (a : Addr) (ns : List Int), ns.length ≤ n → Only H → SqL (K w.params) H a (ns.map V.int) →
      sp w [.ref a] H (fun v _ => v = .bl true) fun _ _ _ => False)
    (hCX : ∀ (w : World) (H : Hp) (s : Shared) (e : Value) (s' : Shared), CX w [] H s (fun _ _ _ => False) e s' → False) :
    PySem.W.WalkO q loose XP YP l.row.toRowW d [] (fun f vs => PySem.call f vs) := by
  refine Att.attach_call hn hdf fun w s₀ s₁ mg mb fa o pm cd doc a vs ns G Y _ _ _ hmg hobj hints hlen hgen => ?_
  have kx := hY w _ Y
  obtain ⟨fd, bnd, hF⟩ := F w mg fa _ kx G.T.g hmg
  exact law_callG kx G.T.g G.T.b G.T.builtins G.T.nolimit hgen hobj hints (Nat.le_trans hlen hn2) room hF bnd
    (fun H only sq => hsp w H a ns hlen only sq) fun H e s' => hCX w H s₁ e s'
end My
/-! try: .. except (A, B, C) as e: caught = e: the error is held by a name behind the clause, and isinstance is asked of it there -/
namespace My
open PySem PySem.Spec PyProof.Rows L2
/-- an error of the class cls, caught, as an object that is tracked -/
def Err (cls : Value) (a : Addr) : HO :=
  .ext fun h => ∃ (oe : Obj) (vs : Array Value), h.get? a = some oe ∧ Zc cls none oe ∧ oe.data = .fields vs
theorem err_ok {P : Program} {w : World} {H : Hp} {h : Heap} {a : Addr} {cls : Value} {oe : Obj} {vs : Array Value}
    (e : h.get? a = some oe) (z : Zc cls none oe) (d : oe.data = .fields vs) : ObjOk P w H h a (Err cls a) :=
  ⟨⟨oe, vs, e, z, d⟩, ⟨oe, e⟩, fun _ _ ⟨o, v, q, r⟩ k => ⟨o, v, k o q, r⟩⟩
section
variable {X : Cx} {pins : List (Addr × Obj)} {σ : L2.St} {H : Hp} {s : Shared}
/-- an object of ours that was not tracked is tracked from now on -/
theorem track {a : Addr} {oe : Obj} {vs : Array Value} {cls : Value} (I : Inv X pins σ H s)
    (ha : s.heap.get? a = some oe) (hz : Zc cls none oe) (hd : oe.data = .fields vs) (na : H a = none)
    (new : X.s_0.heap.get? a = none) (nL : a ≠ X.env.locals) (np : ∀ p ∈ X.pn ++ pins, p.1 ≠ a) :
    Inv X pins σ (upd H a (Err cls a)) s := by
  have apart : ∀ {b : Addr} {o : HO}, H b = some o → b ≠ a := fun q => ne_of_none q na
  refine ⟨I.ok, I.os, I.bare, ?_, I.loc, I.cell, ?_, ?_, ?_, ?_, I.len⟩
  · refine ⟨I.base.keep, I.base.slot, fun b o e n x => ?_, I.base.there, fun b xs q => ?_, fun b o u q => ?_, fun b ps q => ?_⟩
    · have nb : b ≠ a := fun z => by
        rw [z, new] at e
        cases e
      rw [upd_ne nb]
      exact I.base.free b o e n x
    · have t := I.base.tups b xs q
      rw [upd_ne (apart t)]
      exact t
    · have t := I.base.frzs b o u q
      rw [upd_ne (apart t)]
      exact t
    · obtain ⟨more, t⟩ := I.base.tbls b ps q
      exact ⟨more, by rw [upd_ne (apart t)]; exact t⟩
  · rw [upd_ne nL.symm]
    exact I.free
  · intro x c e
    have nc : c ≠ a := fun z => by
      obtain ⟨v, ob, e1, e2⟩ := I.cell x c e
      rw [z, ha] at e1
      cases e1
      rw [hd] at e2
      cases e2
    rw [upd_ne nc]
    exact I.freeC x c e
  · intro p hp
    obtain ⟨e, n, ne, nf, d⟩ := I.pin p hp
    exact ⟨e, by rw [upd_ne (np p hp)]; exact n, ne, nf, d⟩
  · intro b u e
    by_cases hb : b = a
    · subst hb
      rw [upd_same] at e
      cases e
      exact err_ok ha hz hd
    · rw [upd_ne hb] at e
      refine (I.hok b u e).stay (fun c v _ q => q) (fun c q => ?_) fun c xs q => ?_
      · rw [upd_ne (apart q)]
        exact q
      · rw [upd_ne (apart q)]
        exact q
end
/-- what the clause wishes: the error is of one of the classes, has no dict of its own; slot j holds it behind, slot i is empty -/
def wKeep (K : PySem.W.Frag) (c1 c2 c3 : Addr) (i j : Nat) (D : Ends) : WX := fun cls d σ H =>
  d = none ∧ PySem.W.exmAny K cls [.ref c1, .ref c2, .ref c3] = some true ∧
  ∀ a, H a = none → D.nx (((σ.set i (some (.ref a))).set j (some (.ref a))).set i none) (upd H a (Err cls a))
theorem fly_keep {B h h' : Heap} {l : List Env} {a : Addr} {Z : Obj → Prop} (k : ∀ b o, h.get? b = some o → h'.get? b = some o)
    (f : HandSPX.FlyingZ B l a Z h) : HandSPX.FlyingZ B l a Z h' := by
  obtain ⟨f1, f2, f3, oe, vs, T, oT, ts, e1, z, d, v, bT, ne, e2, d2, t⟩ := f
  exact ⟨fun b o e => k b o (f1 b o e), f2, Heap.FunFrames.of_keeps (fun b o e _ => ⟨o, k b o e, rfl⟩) f3,
    oe, vs, T, oT, ts, k _ _ e1, z, d, v, bT, ne, k _ _ e2, d2, t⟩
/-- x of the module holds c -/
structure Glb (X : Cx) (x : Str) (c : Addr) : Prop where
  g : Gl X x
  m : X.mg x = some (.ref c)
  d : (x == ("__debug__" : Str)) = false
section
variable {X : Cx} {x1 x2 x3 n y : Str} {c1 c2 c3 : Addr} {i j : Nat} {body : List Stmt} {p1 p2 p3 pt pa py pn' pos pos' : Pos} {tb : WX → TS} {kk : Nat}
theorem ps_try_keep (hs : X.stack = X.env :: X.outer) (hf : X.env.frame = some X.env.locals) (hex : X.ex = [])
    (hN : X.N.Nodup) (hi : X.N[i]? = some n) (hj : X.N[j]? = some y) (hln : X.env.kindOf n = some .local)
    (hly : X.env.kindOf y = some .local) (G1 : Glb X x1 c1) (G2 : Glb X x2 c2) (G3 : Glb X x3 c3)
    (dn : (n == ("__debug__" : Str)) = false) (dc : (n == ("__classdict__" : Str)) = false)
    (sw : swapsWith (.Name n pn') (some (.Name y py)) pa.line X.env = pure false)
    (hb : ∀ (W : WX) (pn : List (Addr × Obj)) (xe : Value → Shared → Prop), Takes (X.tr pn xe) W →
      PassesOwn (model X.prog X.w) X.A X.env xe → PSs (X.tr pn xe) body (tb W)) :
    PS X (.Try body [.ExceptHandler (some (.Tuple [.Name x1 p1, .Name x2 p2, .Name x3 p3] kk pt)) (some n)
      [.Assign [.Name y py] (.Name n pn') pa] pos'] [] [] pos) (fun D σ H => tb (wKeep X.K c1 c2 c3 i j D) D σ H) := by
  refine ⟨fun pins s σ H D I h => ?_⟩
  have ok := I.ok
  have fr0 : X.A.frames = some (X.env :: X.outer) := by rw [ok.frames, hs]
  have locn : Loc X.env.scope n := .inl hln
  let hds : List ExceptHandler := [.ExceptHandler (some (.Tuple [.Name x1 p1, .Name x2 p2, .Name x3 p3] kk pt)) (some n)
      [.Assign [.Name y py] (.Name n pn') pa] pos']
  let M := model X.prog X.w
  let caught : Value → Shared → Prop := fun e s1 => wpAny M X.A (noteFrame e X.env) (fun _ s2 =>
    wpAny M X.A (setFlight e none) (fun _ s3 => wpAny M X.A (handleBy e X.env hds) (SP X pins D) X.xe s3) X.xe s2) X.xe s1
  have tk : Takes (X.tr (X.pn ++ pins) caught) (wKeep X.K c1 c2 c3 i j D) := by
    intro u s' xx
    obtain ⟨a, B, sI, pins', σ', H', cls, d, rfl, J', nb, up, sky, na, os, ag, rfl, any, yes⟩ := xx
    have J : Inv X pins σ' H' sI := J'.ofTry ok
    have sky' : Sky B (X.env :: X.outer) a (Zc cls none) X.env.locals s'.heap := by rw [← hs]; exact sky
    show wpAny M X.A (noteFrame (.ref a) X.env) _ _ _
    refine Sky.land Zc.steady fr0 hf sky' fun h3 fl3 up3 => ?_
    have J3 : Inv X pins σ' H' { s' with heap := h3 } := J.landed nb fl3.1 (up.trans up3) os ag
    obtain ⟨oe3, vs3, he3, hz3, hd3⟩ := fl3.there
    have nfr : a ∉ frs (X.env :: X.outer) := fun hm => by
      obtain ⟨_, o', e', bad⟩ := fl3.2.2.1.mem hm
      rw [he3] at e'
      cases e'
      exact bad _ hd3
    have nL : a ≠ X.env.locals := fun z => nfr (List.mem_filterMap.mpr ⟨X.env, List.mem_cons_self, by rw [hf, z]⟩)
    have nF : a ∉ X.fs := fun hm => by
      obtain ⟨e, he, q⟩ := List.mem_filterMap.mp hm
      exact nfr (List.mem_filterMap.mpr ⟨e, List.mem_cons_of_mem _ he, q⟩)
    have newI : sI.heap.get? a = none := by
      cases q : sI.heap.get? a with
      | none => rfl
      | some o =>
        have z := nb a o q (by rw [hs]; exact nfr)
        rw [fl3.2.1] at z
        cases z
    have new0 : X.s_0.heap.get? a = none := by
      cases q : X.s_0.heap.get? a with
      | none => rfl
      | some o =>
        obtain ⟨o', e'⟩ := J.base.there a o q (by rw [hex]; intro z; cases z)
        rw [newI] at e'
        cases e'
    have apart : ∀ p ∈ X.pn ++ pins, p.1 ≠ a := fun p hp z => by
      have e := (J.pin p hp).1
      rw [z, newI] at e
      cases e
    have S3 := J3.suite he3 hd3 na nL nF
    refine wpAny_handleBy_cons (codeAny_handlers_test ?_) (by intro q; cases q)
    refine wpAny_Tuple ?_
    refine wpAny_items_cons (ld_glob S3 G1.g G1.m ?_ G1.d)
    refine wpAny_items_cons (ld_glob S3 G2.g G2.m ?_ G2.d)
    refine wpAny_items_cons (ld_glob S3 G3.g G3.m ?_ G3.d)
    refine wpAny_items_nil ⟨(show 3 ≤ sizeLine by decide), ?_⟩
    let h4 : Heap := h3.push { cls := .type "tuple", data := .seq [Value.ref c1, .ref c2, .ref c3].toArray }
    have kp : ∀ b o, h3.get? b = some o → h4.get? b = some o := fun _ _ e => Heap.get?_push_of_some _ e
    have fl4 : HandSPX.FlyingZ B (X.env :: X.outer) a (Zc cls none) h4 := fly_keep kp fl3
    have up4 : sI.heap.UpToSlots h4 := (up.trans up3).trans (Heap.UpToSlots.of_keeps kp)
    have J4 : Inv X pins σ' H' { s' with heap := h4 } := J.landed nb fl4.1 up4 os ag
    have LT : PySem.W.Looks M h4 (typeOf (.ref a)) cls := fun A Q E s k q =>
      wpAny_typeOf_ref (k _ _ (kp _ _ he3)) (by rw [hz3.1]; exact q)
    have LM := PySem.W.exm_tup3 (M := M) J4.kIn LT (Heap.get?_push_size h3 rfl) any
    refine LM.here ?_
    refine codeAny_handlers_suite_as ?_
    refine HandSPX.lands_againZ fl4 fun h5 fl5 up5 => ?_
    have J5 : Inv X pins σ' H' { s' with heap := h5 } := J.landed nb fl5.1 (up4.trans up5) os ag
    obtain ⟨oe5, vs5, he5, hz5, hd5⟩ := fl5.there
    have S5 := J5.suite he5 hd5 na nL nF
    have lenN : X.N.length = σ'.length := J.len.symm
    refine store_ok (X := X.suite a ((a, oe5) :: (X.pn ++ pins))) (v := .ref a) S5 hN hi locn rfl (fun s6 S6 => ?_) (.inr hln)
    have lti : i < σ'.length := by
      rw [← lenN]
      exact (List.getElem?_eq_some_iff.mp hi).1
    have got : (σ'.set i (some (V.ref a)))[i]? = some (some (V.ref a)) := by rw [List.getElem?_set_self lti]
    let D' : Ends := { nx := fun σ2 H2 => σ2 = (σ'.set i (some (.ref a))).set j (some (.ref a)) ∧ H2 = H', rt := fun _ _ => False, bk := fun _ _ => False, ct := fun _ _ => False }
    have suite : PSs (X.suite a ((a, oe5) :: (X.pn ++ pins))) [.Assign [.Name y py] (.Name n pn') pa] (tAsg (tVar i) (gName j)) :=
      pss_one (ps_set (i := j) hN hj (.inl hly) (pe_var hi (.inl hln) dn dc) sw (.inr hly))
    refine wpAny_mono (suite.run [] s6 _ H' D' S6 ⟨_, got, rfl, rfl⟩) (fun f s7 hsp => ?_) (fun _ _ z => False.elim z)
    cases f with
    | brk => exact hsp.elim fun _ z => z.elim fun _ z => z.2.elim
    | cont => exact hsp.elim fun _ z => z.elim fun _ z => z.2.elim
    | ret u => exact hsp.elim fun _ z => z.elim fun _ z => z.elim fun _ z => z.2.2.elim
    | next =>
      obtain ⟨σ7, H7, S7, e7, eH⟩ := hsp
      subst e7
      subst H7
      have keepP : ∀ p ∈ X.pn ++ ((a, oe5) :: pins), s7.heap.get? p.1 = some p.2 ∧ H' p.1 = none ∧ p.1 ≠ X.env.locals ∧ p.1 ∉ X.fs ∧ ∀ v, p.2.data ≠ .cell v := by
        intro p hp
        refine S7.pin p (List.mem_append_left _ ?_)
        rcases List.mem_append.mp hp with z | z
        · exact List.mem_cons_of_mem _ (List.mem_append_left _ z)
        · rcases List.mem_cons.mp z with z | z
          · rw [z]
            exact List.mem_cons_self
          · exact List.mem_cons_of_mem _ (List.mem_append_right _ z)
      have J7 : Inv X ((a, oe5) :: pins) ((σ'.set i (some (.ref a))).set j (some (.ref a))) H' s7 :=
        ⟨ok, S7.os, S7.bare, S7.base, S7.loc, S7.cell, S7.free, S7.freeC, keepP, S7.hok, S7.len⟩
      refine gone_ok J7 hN hi hln fun s8 J8 => ?_
      obtain ⟨e8, n8, _, _, _⟩ := J8.pin (a, oe5) (List.mem_append_right _ List.mem_cons_self)
      have J9 : Inv X pins (((σ'.set i (some (.ref a))).set j (some (.ref a))).set i none) H' s8 :=
        ⟨ok, J8.os, J8.bare, J8.base, J8.loc, J8.cell, J8.free, J8.freeC, fun p hp => J8.pin p (by
          rcases List.mem_append.mp hp with z | z
          · exact List.mem_append_left _ z
          · exact List.mem_append_right _ (List.mem_cons_of_mem _ z)), J8.hok, J8.len⟩
      exact ⟨_, _, track J9 e8 hz5 hd5 na new0 nL apart, yes a na⟩
  refine wpAny_Try_except ?_
  refine wpAny_mono ((hb (wKeep X.K c1 c2 c3 i j D) (X.pn ++ pins) caught tk PassesOwn.looking).run [] s σ H D (I.toTry _) h) (fun f s1 hsp => ?_) (fun e s1 he => he)
  cases f with
  | next => exact wpAny_execs_nil (hsp.elim fun σ' z => z.elim fun H' z => ⟨σ', H', z.1.ofTry ok, z.2⟩)
  | brk => exact hsp.elim fun σ' z => z.elim fun H' z => ⟨σ', H', z.1.ofTry ok, z.2⟩
  | cont => exact hsp.elim fun σ' z => z.elim fun H' z => ⟨σ', H', z.1.ofTry ok, z.2⟩
  | ret u =>
    obtain ⟨v, σ', H', J, r, q⟩ := hsp
    exact ⟨v, σ', H', J.ofTry ok, r, q⟩
end
end My
/-! isinstance of a caught error that a name holds -/
namespace My
open PySem PySem.Spec PyProof.Rows L2
section
variable {X : Cx}
theorem err_inst {pins : List (Addr × Obj)} {σ : L2.St} {H : Hp} {s : Shared} {a D : Addr} (I : Inv X pins σ H s)
    (h : H a = some (Err (.ref D) a)) : ∃ oe, PySem.W.InstAt s.heap a oe D none := by
  obtain ⟨⟨oe, vs, e, z, d⟩, _⟩ := I.hok a _ h
  obtain ⟨oc, od, da, sl⟩ := oe
  obtain ⟨z1, z2⟩ := z
  dsimp only at z1 z2 d
  subst z1 z2 d
  exact ⟨_, e, rfl, rfl, trivial⟩
def rIsErr (K : PySem.W.Frag) : List V → Hp → VK → Prop := fun xs H Q => ∃ (a D : Addr) (c : V) (cv : Value) (b : Bool),
  xs = [.ref a, c] ∧ H a = some (Err (.ref D) a) ∧ ExcC K D ∧ ClsV c cv ∧ PySem.W.kitOne K (.ref D) cv = some b ∧ Q (.bl b) H
theorem call_isErr : CallR X (.builtin "isinstance") (rIsErr X.K) := by
  intro pins s σ H xs us Q I r h
  obtain ⟨a, D, c, cv, b, rfl, ha, C, kc, e, q⟩ := h
  obtain ⟨u1, u2, rfl, r1, r2⟩ := vals2 r
  cases (show u1 = Value.ref a from r1)
  have e2 := kc.eq r2
  subst e2
  obtain ⟨oe, J⟩ := err_inst I ha
  exact PySem.W.kia_one (PySem.W.handS_kitx_exc C.hg C.hk C.hs C.hd C.ha C.hn C.ht C.hm) I.kIn J e (fun z => nomatch z)
    fun tk => ⟨.bl b, H, I.tok tk, rfl, q⟩
def rIsErrT (K : PySem.W.Frag) : List V → Hp → VK → Prop := fun xs H Q => ∃ (a D tp : Addr) (cs : List V) (us : List Value) (b : Bool),
  xs = [.ref a, .ref tp] ∧ H a = some (Err (.ref D) a) ∧ ExcC K D ∧ H tp = some (.tup cs) ∧ Paired ClsV cs us ∧
  PySem.W.kitAny K (.ref D) us = some b ∧ Q (.bl b) H
theorem call_isErrT : CallR X (.builtin "isinstance") (rIsErrT X.K) := by
  intro pins s σ H xs us Q I r h
  obtain ⟨a, D, tp, cs, ws, b, rfl, ha, C, hT, kc, e, q⟩ := h
  obtain ⟨u1, u2, rfl, r1, r2⟩ := vals2 r
  cases (show u1 = Value.ref a from r1)
  cases (show u2 = Value.ref tp from r2)
  obtain ⟨oe, J⟩ := err_inst I ha
  obtain ⟨_, its, rv, o, h1, h2, n, h3⟩ := (show ObjOk X.prog X.w H s.heap tp (.tup cs) from I.hok tp _ hT)
  have e3 := ClsV.all kc rv
  subst e3
  obtain ⟨oc, od, dt, sl⟩ := o
  dsimp only at h2 h3
  subst h2 h3
  exact PySem.W.kia_tup (PySem.W.handS_kitx_exc C.hg C.hk C.hs C.hd C.ha C.hn C.ht C.hm) I.kIn J h1 e (fun z => nomatch z)
    fun tk => ⟨.bl b, H, I.tok tk, rfl, q⟩
end
theorem kit_own {K : PySem.W.Frag} {D C : Addr} {b : Bool} (ne : (Value.ref D == Value.ref C) = false) (h1 : PySem.W.isClsIn K C = true)
    (h2 : PySem.W.typeIn K (.ref C) = some (.type "type")) (h3 : PySem.W.subIn K (.ref D) (.ref C) = some b) :
    PySem.W.kitOne K (.ref D) (.ref C) = some b := by
  have e : ((PySem.W.clsIn K C).isSome && PySem.W.typeIn K (.ref C) == some (.type "type")) = true := by
    have z : (PySem.W.clsIn K C).isSome = true := h1
    rw [z, h2] <;> rfl
  unfold PySem.W.kitOne
  rw [ne, if_neg Bool.false_ne_true]
  show (if _ then _ else _) = _
  rw [if_pos e]
  exact h3
theorem kit_self {K : PySem.W.Frag} {D : Addr} : PySem.W.kitOne K (.ref D) (.ref D) = some true := if_pos (beq_self_eq_true _)
theorem kit_typ {K : PySem.W.Frag} {D : Addr} {T : String} {b : Bool} (h : PySem.W.kitMeta T = true)
    (h3 : PySem.W.subIn K (.ref D) (.type T) = some b) : PySem.W.kitOne K (.ref D) (.type T) = some b := by
  have ne : (Value.ref D == Value.type T) = false := rfl
  unfold PySem.W.kitOne
  rw [ne, if_neg Bool.false_ne_true]
  show (if _ then _ else _) = _
  rw [if_pos h]
  exact h3
end My
/-! rules whose reading names the written part, said with a letter for it (within a comprehension's element) -/
namespace My
open PySem PySem.Spec PyProof.Rows L2
section
variable {X : Cx} {K : PySem.W.Frag}
theorem ix_listK (e : X.K = K) : IxR X (rIxL K) := e ▸ ix_list
theorem ix_tupK (e : X.K = K) : IxR X (rIxT K) := e ▸ ix_tup
theorem sl_listK (e : X.K = K) : SlR X (rSlL K) := e ▸ sl_list
theorem sl_tupK (e : X.K = K) : SlR X (rSlT K) := e ▸ sl_tup
def rLenSeq (K : PySem.W.Frag) : List V → Hp → VK → Prop := fun xs H Q => ∃ p ys, xs = [.ref p] ∧ (SqL K H p ys ∨ SqT K H p ys) ∧ Q (.int ys.length) H
theorem len_seqK (e : X.K = K) : CallR X (.builtin "len") (rLenSeq K) := e ▸ call_len_seq
def rListOf (K : PySem.W.Frag) : List V → Hp → VK → Prop := fun xs H Q => ∃ p ys, xs = [.ref p] ∧ (SqL K H p ys ∨ SqT K H p ys) ∧ ∀ l, H l = none → Q (.ref l) (upd H l (.lst ys))
theorem list_ofK (e : X.K = K) : CallR X (.type "list") (rListOf K) := e ▸ call_list_of
theorem in_seqK (e : X.K = K) : OpR X (compareOp .In) (rIn K false) := e ▸ op_in_seq
theorem notIn_seqK (e : X.K = K) : OpR X (compareOp .NotIn) (rIn K true) := e ▸ op_notIn_seq
theorem eqDK (e : X.K = K) (hu : X.A.units + 64 < cLine) : OpR X (compareOp .Eq) (rEqD K) := e ▸ op_eqD hu
theorem neDK (e : X.K = K) (hu : X.A.units + 64 < cLine) : OpR X (compareOp .NotEq) (rNeD K) := e ▸ op_neD hu
theorem ps_nox {st : Stmt} {t : TS} (h : PS X.nox st t) : PS X st t := ⟨fun pins s σ H D I hw =>
  wpAny_mono (h.run pins s σ H D (I.wish _) hw) (fun f s' q => q.unwish) fun _ _ z => False.elim z⟩
theorem pe_K {T : String} {r : V → List V → Hp → VK → Prop} {to : TE} {t : TA} {ex : Expr} (e : X.K = K) (h : PE X ex (tBM X.K T r to t)) : PE X ex (tBM K T r to t) := e ▸ h
theorem pe_K0 {T : String} {r : V → List V → Hp → VK → Prop} {to : TE} {ex : Expr} (e : X.K = K) (h : PE X ex (tBM0 X.K T r to)) : PE X ex (tBM0 K T r to) := e ▸ h
theorem pi_listK {tg l : Expr} {tl : TE} (e : X.K = K) (h : PE X l tl) : PI X tg l (iList K tl) := e ▸ pi_list h
end
end My
/-! sets of texts whose walk is known, as far as its order goes: add -/
namespace My
open PySem PySem.Spec PyProof.Rows L2
def keyS (e : Int × Value) : Str := match e.2 with
  | .str x _ => x
  | _ => Str.empty
def GoodS (w : World) (e : Int × Value) : Prop := ∃ x t, e.2 = Value.str x t ∧ e.1 = hashStr w x
/-- at a stands a set of just the texts xs -/
structure SetT (w : World) (h : Heap) (a : Addr) (xs : List Str) : Prop where
  nd : xs.Nodup
  at_ : ∃ o es ep t, h.get? a = some o ∧ o.ExactSet ∧ o.data = .set es ep t ∧ (∀ e ∈ es.toList, GoodS w e) ∧
    (es.toList.map keyS).Perm xs ∧ es.size < scanBound ∧ t.fits es.size = true ∧ Ris t.place.toList ∧
    (w.params.followText "set-order" = true ∨ t.led = true)
section
variable {P : Program} {w : World} {A : Around} {E : Value → Shared → Prop} {s : Shared} {a : Addr} {xs : List Str}
theorem SetT.keep {h h' : Heap} (R : SetT w h a xs) (k : ∀ o, h.get? a = some o → h'.get? a = some o) : SetT w h' a xs := by
  obtain ⟨nd, o, es, ep, t, ho, r⟩ := R
  exact ⟨nd, o, es, ep, t, k o ho, r⟩
theorem goodS_elems {l : List (Int × Value)} (g : ∀ e ∈ l, GoodS w e) : ElemsOf (strKind P w) l := fun e he => by
  obtain ⟨x, t, h1, h2⟩ := g e he
  exact ⟨⟨x, by rw [h1]; exact strKind_is P w x t, h2⟩, by rw [h1]; rfl⟩
theorem goodS_is {e : Int × Value} (g : GoodS w e) (k : Str) : (strKind P w).is k e.2 = true ↔ keyS e = k := by
  obtain ⟨x, t, h1, _⟩ := g
  unfold keyS
  rw [h1]
  constructor
  · intro h
    have h' : Value.isStrOf k (.str x t) = true := h
    obtain ⟨u, hu⟩ := Value.isStrOf_shape h'
    cases hu
    rfl
  · rintro rfl
    exact strKind_is P w x t
theorem SetT.setOf (R : SetT w s.heap a xs) : s.heap.SetOf (strKind P w) a (fun k => decide (k ∈ xs)) xs.length := by
  obtain ⟨nd, o, es, ep, t, ho, hx, hd, g, pm, hb, hf, _⟩ := R
  refine ⟨o, es, ep, t, ho, hx, hd, goodS_elems g, fun k => ?_, hb, hf, ?_⟩
  · rw [decide_eq_true_eq, ← pm.mem_iff, List.mem_map]
    constructor
    · rintro ⟨e, he, q⟩
      exact ⟨e, he, (goodS_is (g e he) k).2 q⟩
    · rintro ⟨e, he, q⟩
      exact ⟨e, he, (goodS_is (g e he) k).1 q⟩
  · rw [← pm.length_eq, List.length_map, Array.length_toList]
/-- the state behind a store into the set's object -/
theorem storeS_at {h : Heap} {o : Obj} {es es' : Array (Int × Value)} {ep : Nat} {t t' : SetTable} (ho : h.get? a = some o) (hd : o.data = .set es ep t) :
    (h.update a (Obj.putSet es' t')).get? a = some { o with data := .set es' (ep + 1) t' } := L2.store_at ho hd
theorem tailS {give : Bool → Sem Unit} (hg : ∀ (b : Bool) (s₁ : Shared) (Q' : Unit → Shared → Prop), Q' () s₁ → wpAny (model P w) A (give b) Q' E s₁)
    {o : Obj} {es : Array (Int × Value)} {ep : Nat} {t : SetTable} (ho : s.heap.get? a = some o) (hex : o.ExactSet) (hd : o.data = .set es ep t)
    {es1 : Array (Int × Value)} {t2 : SetTable} {ys : List Str} (nd : ys.Nodup) (g1 : ∀ e ∈ es1.toList, GoodS w e) (pm1 : (es1.toList.map keyS).Perm ys)
    (hb1 : es1.size < scanBound) (hf2 : t2.fits es1.size = true) (hr : Ris t2.place.toList)
    (hl : w.params.followText "set-order" = true ∨ t2.led = true) {dummy : Bool} {R : Option Bool → Shared → Prop}
    (hR : ∀ h', Heap.SameBut a s.heap h' → SetT w h' a ys → R (some true) { s with heap := h' }) :
    wpAny (model P w) A (do
        storeSet a es1 t2
        if (!dummy && t2.tooFull) = true then do
            give (relayAll t2 es1 (SetTable.grown es1.size)).2.2
            storeSet a (relayAll t2 es1 (SetTable.grown es1.size)).1 (relayAll t2 es1 (SetTable.grown es1.size)).2.1
            pure (some true)
          else pure (some true)) R E s := by
  have first : (s.heap.update a (Obj.putSet es1 t2)).get? a = some { o with data := .set es1 (ep + 1) t2 } := storeS_at ho hd
  have b1 : Heap.SameBut a s.heap (s.heap.update a (Obj.putSet es1 t2)) := Heap.SameBut.update s.heap a (Obj.putSet es1 t2)
  refine wpAny_bind (wpAny_storeSet_of ho hd ?_ (fits_of_scanBound hb1))
  by_cases full : (!dummy && t2.tooFull) = true
  · rw [if_pos full]
    have pm := relayAll_perm t2 es1 (SetTable.grown es1.size)
    have hf3 := relayAll_fits t2 es1 (SetTable.grown es1.size)
    have hr3 := relayAll_ris t2 es1 (SetTable.grown es1.size)
    have hl3 := relayAll_led t2 es1 (SetTable.grown es1.size)
    revert pm hf3 hr3 hl3
    generalize relayAll t2 es1 (SetTable.grown es1.size) = Z
    obtain ⟨es2, t3, gv⟩ := Z
    intro pm hf3 hr3 hl3
    dsimp only at pm hf3 hr3 hl3 ⊢
    have sz : es2.size = es1.size := by
      rw [← Array.length_toList, ← Array.length_toList]
      exact pm.length_eq
    have hb2 : es2.size < scanBound := by rw [sz]; exact hb1
    refine wpAny_bind (hg _ _ _ ?_)
    refine wpAny_bind (wpAny_storeSet_of first rfl ?_ (fits_of_scanBound hb2))
    refine wpAny_pure (hR _ (b1.trans (Heap.SameBut.update _ a _)) ?_)
    refine ⟨nd, _, es2, _, t3, storeS_at first rfl, hex, rfl, fun e he => g1 e (pm.mem_iff.mp he), (pm.map keyS).trans pm1, hb2, hf3, hr3, ?_⟩
    rcases hl with z | z
    · exact .inl z
    · exact .inr (by rw [← z]; exact hl3)
  · rw [if_neg full]
    exact wpAny_pure (hR _ b1 ⟨nd, _, es1, _, t2, first, hex, rfl, g1, pm1, hb1, hf2, hr, hl⟩)
/-- the set with x -/
def withT (xs : List Str) (x : Str) : List Str := if x ∈ xs then xs else xs ++ [x]
theorem withT_nd {xs : List Str} {x : Str} (h : xs.Nodup) : (withT xs x).Nodup := by
  unfold withT
  split
  · exact h
  · rename_i n
    exact List.nodup_append.mpr ⟨h, List.nodup_cons.mpr ⟨by simp, List.nodup_nil⟩, fun a ha b hb => by
      cases List.mem_singleton.mp hb
      exact fun z => n (z ▸ ha)⟩
theorem addS_hashed {x : Str} {tk : Tok} {Q : Bool → Shared → Prop} (R : SetT w s.heap a xs) (room : xs.length + 1 < scanBound)
    (hQ : ∀ (b : Bool) h', Heap.SameBut a s.heap h' → SetT w h' a (withT xs x) → Q b { s with heap := h' }) :
    wpAny (model P w) A (setAddHashed a (.str x tk) ((strKind P w).hash x)) Q E s := by
  obtain ⟨nd, o, es, ep, t, ho, hex, hd, g, pmx, hb, hf, hr, hl⟩ := R
  have key : (strKind P w).is x (.str x tk) = true := strKind_is P w x tk
  have sc : (Value.str x tk).scannable = true := rfl
  have elems : ElemsOf (strKind P w) es.toList := goodS_elems g
  unfold setAddHashed setAddHashedIn
  refine wpAny_holding (wpAny_bind (wpAny_setState_of ho hd hf ?_))
  dsimp only
  rw [byScan_of sc hb elems]
  simp only [↓reduceIte]
  unfold setAddByScan
  refine wpAny_bind (wpAny_bind (wpAny_rule (wpAny_bind (wpAny_setScan_of key ho hd hf elems ?_))))
  cases found : List.findIdx? (fun e => (strKind P w).is x e.2) es.toList with
  | some j =>
    obtain ⟨hj, pj, _⟩ := List.findIdx?_eq_some_iff_getElem.mp found
    have mem : x ∈ xs := by
      rw [← pmx.mem_iff, List.mem_map]
      exact ⟨_, List.getElem_mem hj, (goodS_is (g _ (List.getElem_mem hj)) x).1 pj⟩
    dsimp only
    refine wpAny_pure (wpAny_pure (hQ _ s.heap (Heap.SameBut.refl a s.heap) ?_))
    unfold withT
    rw [if_pos mem]
    exact ⟨nd, o, es, ep, t, ho, hex, hd, g, pmx, hb, hf, hr, hl⟩
  | none =>
    have nmem : x ∉ xs := fun z => by
      rw [← pmx.mem_iff, List.mem_map] at z
      obtain ⟨e, he, q⟩ := z
      have bad := List.findIdx?_eq_none_iff.mp found e he
      rw [(goodS_is (P := P) (g e he) x).2 q] at bad
      cases bad
    dsimp only
    have pm := layNew_perm t es ((strKind P w).hash x) (.str x tk)
    have hf1 := layNew_fits t es ((strKind P w).hash x) (.str x tk)
    have hr1 := layNew_ris t es ((strKind P w).hash x) (.str x tk) hr
    have hl1 := layNew_led t es ((strKind P w).hash x) (.str x tk)
    revert pm hf1 hr1 hl1
    generalize layNew t es ((strKind P w).hash x) (.str x tk) = Z
    obtain ⟨es1, t1, dummy, gv⟩ := Z
    intro pm hf1 hr1 hl1
    dsimp only at pm hf1 hr1 hl1 ⊢
    rw [Array.toList_push] at pm
    have g1 : ∀ e ∈ es1.toList, GoodS w e := fun e he => by
      rcases List.mem_append.mp (pm.mem_iff.mp he) with z | z
      · exact g e z
      · cases List.mem_singleton.mp z
        exact ⟨x, tk, rfl, rfl⟩
    have pk : (es1.toList.map keyS).Perm (xs ++ [x]) := by
      have q := pm.map keyS
      rw [List.map_append] at q
      exact q.trans (pmx.append (List.Perm.refl [x]))
    have e1 : withT xs x = xs ++ [x] := if_neg nmem
    have nd1 : (xs ++ [x]).Nodup := by
      rw [← e1]
      exact withT_nd nd
    have hb1 : es1.size < scanBound := by
      have z := pk.length_eq
      rw [List.length_map, Array.length_toList, List.length_append] at z
      have y : [x].length = 1 := rfl
      omega
    have led1 : w.params.followText "set-order" = true ∨ t1.led = true := hl.imp id fun z => by rw [hl1]; exact z
    have give : ∀ (m : String) (b : Bool) {s₁ : Shared} {Q' : Unit → Shared → Prop}, Q' () s₁ → wpAny (model P w) A (match b with | true => rule m | false => pure ()) Q' E s₁ := by
      intro m b s₁ Q' q
      cases b
      · exact wpAny_pure q
      · exact wpAny_rule q
    have fin : ∀ h', Heap.SameBut a s.heap h' → SetT w h' a (xs ++ [x]) → Q true { s with heap := h' } := fun h' sb r => hQ true h' sb (by rw [e1]; exact r)
    refine wpAny_bind (give _ _ ?_)
    split
    · refine wpAny_bind ?_
      rw [hashByValue_scannable 8 sc]
      refine wpAny_pure (tailS (fun b s₁ Q' q => give _ b q) ho hex hd nd1 g1 pk hb1 ?_ ?_ ?_ fun h' sb r => wpAny_pure (fin h' sb r))
      · split
        · first | exact hf1 | exact SetTable.fits_plain_off hf1
        · exact hf1
      · split <;> exact hr1
      · split <;> exact led1
    · refine wpAny_bind (wpAny_pure ?_)
      simp only [↓reduceIte]
      exact tailS (fun b s₁ Q' q => give _ b q) ho hex hd nd1 g1 pk hb1 hf1 hr1 led1 fun h' sb r => wpAny_pure (fin h' sb r)
end
end My
/-! sorted of texts, any number of them: of lists and of sets; set.add, a new set -/
namespace My
open PySem PySem.Spec PyProof.Rows L2
/-! ### the order of texts -/
def sv : Value → Str
  | .str x _ => x
  | _ => Str.empty
def ltS (v u : Value) : Bool := decide ((sv v).cps.toList < (sv u).cps.toList)
theorem swoS : SrtO.Swo ltS := by
  refine ⟨fun x y h => ?_, fun x y z h1 h2 => ?_⟩
  · have a := of_decide_eq_true (p := (sv x).cps.toList < (sv y).cps.toList) h
    exact decide_eq_false (p := (sv y).cps.toList < (sv x).cps.toList) fun b => List.lt_irrefl _ (List.lt_trans a b)
  · have a := of_decide_eq_false (p := (sv y).cps.toList < (sv x).cps.toList) h1
    have b := of_decide_eq_false (p := (sv z).cps.toList < (sv y).cps.toList) h2
    refine decide_eq_false (p := (sv z).cps.toList < (sv x).cps.toList) fun c => ?_
    exact List.not_lt.mpr (List.le_trans (List.not_lt.mp a) (List.not_lt.mp b)) c
theorem strs_mem : ∀ {vs : List Value} {ss : List Str}, StrsAre vs ss → ∀ v ∈ vs, ∃ i t, v = Value.str i t
  | _, _, .nil, v, h => by cases h
  | _, _, .cons n t r, v, h => by
    rcases List.mem_cons.mp h with e | h
    · exact ⟨n, t, e⟩
    · exact strs_mem r v h
theorem strs_sv : ∀ {vs : List Value}, (∀ v ∈ vs, ∃ i t, v = Value.str i t) → StrsAre vs (vs.map sv)
  | [], _ => .nil
  | v :: vs, h => by
    obtain ⟨i, t, e⟩ := h v List.mem_cons_self
    subst e
    exact .cons i t (strs_sv fun u hu => h u (List.mem_cons_of_mem _ hu))
theorem sv_strs : ∀ {vs : List Value} {ss : List Str}, StrsAre vs ss → vs.map sv = ss
  | _, _, .nil => rfl
  | _, _, .cons n t r => congrArg (n :: ·) (sv_strs r)
section
variable {P : Program} {w : World} {A : Around} {E : Value → Shared → Prop} {s : Shared}
theorem strs_sortable {a : Addr} {vs : List Value} {ss : List Str} (hs : StrsAre vs ss) (h2 : 2 ≤ vs.length) : SrtO.SortableO P w A s a vs ltS := by
  intro h' _
  refine ⟨oneType', fun Q E hq => ?_, fun p q hm hm' => ?_⟩
  · match vs, hs, h2 with
    | v1 :: v2 :: rest, hs, _ =>
      rw [keyKind_strs hs]
      exact wpAny_pure hq
    | [v], _, h => exact absurd h (by simp)
    | [], _, h => exact absurd h (by simp)
  · obtain ⟨a, t, e⟩ := strs_mem hs _ hm
    obtain ⟨b, u, e'⟩ := strs_mem hs _ hm'
    show wpAny (model P w) A (keyLt' oneType' p.1 q.1) (fun r s' => s' = _ ∧ r = ltS p.1 q.1) (fun _ _ => False) _
    rw [e, e', keyLt'_oneType]
    exact oneLt_str ⟨rfl, rfl⟩
/-- rising, perhaps with equal ones -/
def Sorted (ys : List Str) : Prop := ys.Pairwise fun x y => ¬ y.cps.toList < x.cps.toList
theorem strs_out {vs out : List Value} {ss : List Str} (hs : StrsAre vs ss) (h1 : SrtO.Srtd ltS out) (hb : SrtO.Stb ltS out vs) :
    StrsAre out (out.map sv) ∧ (out.map sv).Perm ss ∧ Sorted (out.map sv) := by
  refine ⟨strs_sv fun v hv => strs_mem hs v (hb.perm.mem_iff.mp hv), ?_, ?_⟩
  · have q := hb.perm.map sv
    rw [sv_strs hs] at q
    exact q
  · exact List.pairwise_map.mpr (h1.imp fun {x y} h => of_decide_eq_false (p := (sv y).cps.toList < (sv x).cps.toList) h)
theorem addS {a : Addr} {xs : List Str} {x : Str} {tk : Tok} {Q : Value → Shared → Prop} (R : SetT w s.heap a xs) (room : xs.length + 1 < scanBound)
    (hQ : ∀ h', Heap.SameBut a s.heap h' → SetT w h' a (withT xs x) → Q .none { s with heap := h', toks := s.toks + 1 }) :
    wpAny (model P w) A (call (.builtin "set.add") [.ref a, .str x tk]) Q E s := by
  have so : s.heap.SetOf (strKind P w) a _ _ := R.setOf
  refine wpAny_call_entry F.slot_set_add so.typeIs F.entry_set_add ?_ (F.args_set_add_2 _ _)
  unfold Builtin.«set.add» Builtin.Frozenset.oneOther Builtin.Frozenset.addrOf setAdd
  simp only [List.isEmpty_nil, bind_assoc]
  refine wpAny_bind (wpAny_pure ?_)
  try dsimp only
  refine wpAny_bind (wpAny_pure ?_)
  try dsimp only
  refine wpAny_bind (wpAny_holding (wpAny_bind ((strKind P w).pyHash (strKind_is P w x tk) ?_)))
  refine addS_hashed (s := { s with toks := s.toks + 1 }) R room fun b h' sb r => ?_
  show wpAny _ _ (ret Value.none) _ _ _
  exact wpAny_pure ⟨_, rfl, hQ h' sb r⟩
/-- the object of a new set -/
def newS (w : World) : Obj := { cls := .type "set", dict := none, data := .set #[] 0 (.fresh 0 0 (!w.params.followText "set-order")) }
theorem newS_ok {h : Heap} : SetT w (h.push (newS w)) h.objs.size [] := by
  refine ⟨List.nodup_nil, _, #[], 0, _, Heap.get?_push_size _ rfl, ⟨rfl, rfl, rfl⟩, rfl, fun e he => by simp at he, by simp, by decide, rfl, List.Pairwise.nil, ?_⟩
  show _ ∨ (!w.params.followText "set-order") = true
  cases w.params.followText "set-order"
  · exact .inr rfl
  · exact .inl rfl
theorem newSet_run {Q : Value → Shared → Prop} (h : Q (.ref s.heap.objs.size) { s with heap := s.heap.push (newS w) }) :
    wpAny (model P w) A (newSet (.type "set")) Q E s := by
  unfold newSet setsByText
  refine wpAny_bind (wpAny_bind (wpAny_askSetting (wpAny_pure ?_)))
  show wpAny _ _ (newObj _ _) _ _ _
  unfold newObj
  exact wpAny_bind (wpAny_alloc (wpAny_pure h))
/-- sorted(a set of texts) -/
theorem sortedT {a : Addr} {xs : List Str} {Q : Value → Shared → Prop} (R : SetT w s.heap a xs) (hh : A.handled = none)
    (hQ : ∀ s' p (out : Array Value) (c : Nat) (ys : List Str), (∀ b o, s.heap.get? b = some o → s'.heap.get? b = some o) → s'.gens = s.gens → s'.os = s.os →
      s.heap.objs.size ≤ p → s'.heap.get? p = some (seqObj "list" out c) → StrsAre out.toList ys → Sorted ys → ys.Perm xs → Q (.ref p) s') :
    wpAny (model P w) A (call (.builtin "sorted") [.ref a]) Q E s := by
  obtain ⟨nd, o, es, ep, t, ho, hex, hd, g, pmx, hb, hf, hr, hl⟩ := R
  refine Calls.call_function_entry kind_sorted plain_sorted entry_sorted (args_sorted1 _) ?_
  unfold Builtin.«sorted»
  refine wpAny_bind (m := checkCount "sorted" 1 1 _) (wpAny_pure ?_)
  refine wpAny_bind (collect_set (A := A.in1) hh ⟨o, ho, hex.1, hd⟩ hf hb hr hl fun s1 vs k1 hz g1 o1 pm => ?_)
  have small : vs.length < scanBound := by
    rw [pm.length_eq, List.length_map, Array.length_toList]
    exact hb
  have line : vs.length ≤ sizeLine := by
    have e : scanBound ≤ sizeLine := by decide
    omega
  have hs : StrsAre vs (vs.map sv) := strs_sv fun v hv => by
    obtain ⟨e, he, q⟩ := List.mem_map.mp (pm.mem_iff.mp hv)
    obtain ⟨x, tk, h1, _⟩ := g e he
    exact ⟨x, tk, by rw [← q]; exact h1⟩
  have pk : (vs.map sv).Perm xs := by
    have q := pm.map sv
    rw [List.map_map] at q
    exact q.trans pmx
  refine wpAny_bind (wpAny_newList ?_ line)
  have hoL : (s1.heap.push (seqObj "list" vs.toArray 0)).get? s1.heap.objs.size = some (seqObj "list" vs.toArray 0) := Heap.get?_push_size _ rfl
  refine wpAny_bind (wpAny_holding (wpAny_call_entry slot_list_sort ⟨_, hoL, rfl⟩ entry_list_sort
    (SrtO.list_sort_ord swoS hoL line (fun h2 => strs_sortable hs h2) fun out a1 a2 => ⟨.none, rfl, ?_⟩) (args_list_sort _)))
  obtain ⟨b1, b2, b3⟩ := strs_out hs a1 a2
  obtain ⟨c, hc⟩ := sortedHeap_at (vs := vs) (out := out.toArray) hoL
  refine wpAny_pure ⟨_, rfl, hQ _ s1.heap.objs.size out.toArray c (out.map sv) (fun b u e => ?_) g1 o1 hz hc (by simpa using b1) b3 (b2.trans pk)⟩
  have q := k1 b u e
  have lt := Heap.lt_size q
  show (sortedHeap (s1.heap.push (seqObj "list" vs.toArray 0)) s1.heap.objs.size vs out.toArray).get? b = some u
  rw [sortedHeap_old (Nat.ne_of_lt lt) (by rw [size_push']; exact Nat.lt_succ_of_lt lt)]
  exact Heap.get?_push_of_some _ q
end
/-! ### over the layer -/
def SetTx (w : World) (a : Addr) (xs : List Str) : HO := .ext fun h => SetT w h a xs
theorem setTx_ok {P : Program} {w : World} {H : Hp} {h : Heap} {a : Addr} {xs : List Str} (R : SetT w h a xs) : ObjOk P w H h a (SetTx w a xs) := by
  obtain ⟨o, es, ep, t, ho, _⟩ := R.at_
  exact ⟨R, ⟨o, ho⟩, fun _ _ r k => r.keep k⟩
def rSortedT (w : World) : List V → Hp → VK → Prop := fun vs H Q => ∃ (a : Addr) (xs : List Str), vs = [.ref a] ∧ H a = some (SetTx w a xs) ∧
  ∀ (ys : List Str) (p : Addr), ys.Perm xs → Sorted ys → H p = none → Q (.ref p) (upd H p (.lst (ys.map V.str)))
/-- sorted(xs), texts, any number of them -/
def rSortedL (K : PySem.W.Frag) : List V → Hp → VK → Prop := fun vs H Q => ∃ (a : Addr) (xs : List Str), vs = [.ref a] ∧ SqL K H a (xs.map V.str) ∧
  ∀ (ys : List Str) (p : Addr), ys.Perm xs → Sorted ys → H p = none → Q (.ref p) (upd H p (.lst (ys.map V.str)))
section
variable {X : Cx}
theorem cr_sortedT (hc : X.calm = true) : CallR X (.builtin "sorted") (rSortedT X.w) := by
  intro pins s σ H vs us Q I r h
  obtain ⟨a, xs, rfl, ha, q⟩ := h
  obtain ⟨u, rfl, ru⟩ := vals1 r
  cases (show u = Value.ref a from ru)
  obtain ⟨R, _⟩ := I.hok a _ ha
  refine sortedT R (I.ok.hd hc) fun s' p out c ys k g o sz hp hs srt pm => ?_
  have np := I.hok.fresh sz
  have big : (ys.map V.str).length ≤ sizeLine := by
    rw [List.length_map, pm.length_eq]
    obtain ⟨_, es, _, _, _, _, _, _, _, hb, _, hn⟩ := R.setOf (P := X.prog) (s := s)
    have e : scanBound ≤ sizeLine := by decide
    omega
  have un : Un (frs X.stack) [] H (upd H p (.lst (ys.map V.str))) s.heap s'.heap := Un.laid k sz np
  have okH := I.hok.laid (a := p) (o := .lst (ys.map V.str)) k sz ⟨big, out.toList, c, vals_of_strs hs, hp⟩
  exact ⟨.ref p, _, I.call' o un okH (by rw [g]; exact I.bare) (fun _ z => nomatch z), rfl, q ys p pm srt np⟩
theorem cr_sortedL : CallR X (.builtin "sorted") (rSortedL X.K) := by
  intro pins s σ H vs us Q I r h
  obtain ⟨a, xs, rfl, hs, q⟩ := h
  obtain ⟨its, rv, hl, hz⟩ := I.list hs
  rw [Vals.ref1 r]
  have hi := rv.strs
  refine SrtO.sorted_ord swoS hl.isList (by rw [← rv.length]; exact hz) (fun h2 h₁ a' _ _ => strs_sortable hi h2) fun out h1 h2 => ?_
  obtain ⟨k1, k2, k3⟩ := strs_out hi h1 h2
  obtain ⟨ep, he⟩ := PyProof.Rows.sortedAll_at s.heap its out.toArray
  have len : ((out.map sv).map V.str).length ≤ sizeLine := by
    rw [List.length_map, k2.length_eq]
    rw [List.length_map] at hz
    exact hz
  have J := I.laid (o := .lst ((out.map sv).map V.str)) (t' := s.toks) (fun _ _ => PyProof.Rows.sortedAll_old) (Nat.le_succ _) ⟨len, out, ep, vals_of_strs k1, he⟩
  exact ⟨.ref _, _, J, rfl, q _ _ k2 k3 (I.hok.fresh (Nat.le_succ _))⟩
end
end My
/-! set(a list of texts), any number of them -/
namespace My
open PySem PySem.Spec PyProof.Rows L2
/-- each once, in the order of their coming -/
def distT (xs : List Str) : List Str := xs.foldl withT []
theorem distT_snoc (xs : List Str) (x : Str) : distT (xs ++ [x]) = withT (distT xs) x := by
  unfold distT
  rw [List.foldl_append]
  rfl
theorem withT_mem {xs : List Str} {x y : Str} : y ∈ withT xs x ↔ y ∈ xs ∨ y = x := by
  unfold withT
  split
  · rename_i h
    exact ⟨.inl, fun z => z.elim id fun e => e ▸ h⟩
  · rw [List.mem_append, List.mem_singleton]
theorem withT_len (xs : List Str) (x : Str) : (withT xs x).length ≤ xs.length + 1 := by
  unfold withT
  split
  · omega
  · rw [List.length_append]
    exact Nat.le_refl _
theorem foldT_mem {y : Str} : ∀ (xs acc : List Str), y ∈ xs.foldl withT acc ↔ y ∈ acc ∨ y ∈ xs
  | [], acc => by simp
  | x :: r, acc => by
    rw [List.foldl_cons, foldT_mem r, withT_mem, List.mem_cons, or_assoc]
theorem foldT_len : ∀ (xs acc : List Str), (xs.foldl withT acc).length ≤ acc.length + xs.length
  | [], acc => Nat.le_refl _
  | x :: r, acc => by
    have a := foldT_len r (withT acc x)
    have b := withT_len acc x
    rw [List.foldl_cons, List.length_cons]
    omega
theorem foldT_nd : ∀ (xs : List Str) {acc : List Str}, acc.Nodup → (xs.foldl withT acc).Nodup
  | [], _, h => h
  | _ :: r, _, h => foldT_nd r (withT_nd h)
theorem distT_mem {xs : List Str} {y : Str} : y ∈ distT xs ↔ y ∈ xs := (foldT_mem xs []).trans (by simp)
theorem distT_len (xs : List Str) : (distT xs).length ≤ xs.length := Nat.le_trans (foldT_len xs []) (by simp)
theorem distT_nd (xs : List Str) : (distT xs).Nodup := foldT_nd xs List.nodup_nil
section
variable {P : Program} {w : World} {A : Around} {E : Value → Shared → Prop} {s : Shared}
theorem updT {I : Addr} {fp wr : List Addr} {G : Array GenState → Array GenState → Prop} {n : Nat} {Pv : Nat → Value → Prop} {St : Nat → Shared → Prop} {R : Result → Shared → Prop}
    (W : WalksS P w A.in1 I fp wr G n Pv St) (d : Addr) (nf : d ∉ fp) (xs : List Str) (hn : n = xs.length) (room : xs.length + 1 < scanBound)
    (val : ∀ i v, Pv i v → ∃ x t, xs[i]? = some x ∧ v = .str x t) : ∀ (k i : Nat) (s : Shared), n - i = k → i ≤ n → St i s → SetT w s.heap d (distT (xs.take i)) →
      (∀ s', Moved (d :: wr) G s s' → SetT w s'.heap d (distT xs) → R (.ok (.ret .none)) s') → codeAny (model P w) A (.builtin "set.update.loop" ⟨[.ref d, .ref I], []⟩) R s := by
  have nw : d ∉ wr := fun z => nf (W.sub _ z)
  have up : ∀ b ∈ wr, b ∈ d :: wr := fun b z => List.mem_cons_of_mem _ z
  intro k
  induction k with
  | zero =>
    intro i s hk hi hst hS hR
    have e : xs.take i = xs := List.take_of_length_le (by omega)
    have hin : i = n := by omega
    subst hin
    rw [e] at hS
    refine codeAny_builtin F.entry_set_update_loop ?_
    rw [Around.under_plainId F.plain_set_update_loop _]
    exact wpAny_bind (m := pyNext (.ref I)) (W.done s _ _ hst fun s' m => wpAny_pure (hR s' (m.mono up) (hS.keep fun o z => m.heap d o nw z)))
  | succ k ih =>
    intro i s hk hi hst hS hR
    have lt : i < n := by omega
    refine codeAny_builtin F.entry_set_update_loop ?_
    rw [Around.under_plainId F.plain_set_update_loop _]
    refine wpAny_bind (m := pyNext (.ref I)) (W.item i s _ _ lt hst fun v s' pv hst' m => ?_)
    obtain ⟨x, t, hx, rfl⟩ := val i v pv
    have hS' : SetT w s'.heap d (distT (xs.take i)) := hS.keep fun o z => m.heap d o nw z
    refine wpAny_bind (m := holding [Value.str x t] (setAdd d (.str x t))) (wpAny_holding ?_)
    unfold setAdd
    refine wpAny_holding (wpAny_bind ((PySem.strKind P w).pyHash (k := x) (strKind_is _ _ _ _) ?_))
    have few := distT_len (xs.take i)
    rw [List.length_take] at few
    refine addS_hashed (s := { s' with toks := s'.toks + 1 }) hS' (by omega) fun _ h' sb new => ?_
    rw [← distT_snoc] at new
    have e : xs.take i ++ [x] = xs.take (i + 1) := by
      rw [List.take_add_one, hx]
      rfl
    rw [e] at new
    refine wpAny_pure ⟨plainId_quiet F.plain_set_update_loop _, ih (i + 1) _ (by omega) lt (W.frame _ s' _ _ hst' (Nat.le_succ _) fun b hb o z => ?_) new fun s2 m2 q2 => ?_⟩
    · exact (sb.2 b fun y => nf (y ▸ hb)).trans z
    · exact hR s2 (Moved.trans W.gtrans ((m.mono up).then_heap (Nat.le_succ _) fun b o hb z => (sb.2 b fun y => hb (y ▸ List.mem_cons_self)).trans z) m2) q2
theorem str_at : ∀ {vs : List Value} {ss : List Str}, StrsAre vs ss → ∀ (i : Nat) (v : Value), vs[i]? = some v → ∃ x t, ss[i]? = some x ∧ v = .str x t
  | _, _, .nil, i, v, h => by simp at h
  | _, _, .cons n t r, 0, v, h => ⟨n, t, rfl, (Option.some.inj h).symm⟩
  | _, _, .cons n t r, i + 1, v, h => str_at r i v h
theorem newS_at {h : Heap} {a : Addr} (ho : h.get? a = some (newS w)) : SetT w h a [] := by
  refine ⟨List.nodup_nil, _, #[], 0, _, ho, ⟨rfl, rfl, rfl⟩, rfl, fun e he => by simp at he, by simp, by decide, rfl, List.Pairwise.nil, ?_⟩
  show _ ∨ (!w.params.followText "set-order") = true
  cases w.params.followText "set-order"
  · exact .inr rfl
  · exact .inl rfl
theorem call_setT {a : Addr} {items : Array Value} (xs : List Str) {Q : Value → Shared → Prop} (hh : A.handled = none) (hl : s.heap.IsList a items) (hi : StrsAre items.toList xs) (room : xs.length + 1 < scanBound)
    (h : ∀ (h' : Heap) (tk : Nat), SetT w h' s.heap.objs.size (distT xs) → (∀ b o, s.heap.get? b = some o → h'.get? b = some o) → Q (.ref s.heap.objs.size) { s with heap := h', toks := tk }) :
    wpAny (model P w) A (call (.type "set") [.ref a]) Q E s := by
  have size : items.size = xs.length := by
    have z := hi.length
    rwa [Array.length_toList] at z
  obtain ⟨_, _, hmro⟩ := F.called_set.mro
  have m1 := F.called_set.made
  have m2 := F.called_set.sub
  refine wpAny_call (codeAny_of_tree (show wpAny _ _ (callAny (.type "set") _) _ _ _ from wpAny_pure ⟨Code.quiet_builtin _ (by decide +kernel), codeAny_builtin F.entry_type_call ?_⟩))
  rw [Around.under_plain (weight_type_call_type "set" [.ref a] []) rfl]
  have m3 := F.called_set.notType
  have m4 := F.called_set.canCreate
  have m5 := F.typeCall_set_1 (.ref a)
  repeat any_goals first | assumption | wp_step
  refine codeAny_mono (code_set_led1 (.ref a) (E := E) (Q₁ := fun v t => v = .ref s.heap.objs.size ∧ t = { s with heap := s.heap.push (newS w) }) ⟨rfl, rfl⟩) fun r t hr => ?_
  match r, hr with
  | .ok (.ret v), hr =>
    obtain ⟨rfl, rfl⟩ := hr
    have hS : (s.heap.push (newS w)).get? s.heap.objs.size = some (newS w) := Heap.get?_push_size _ rfl
    have hT : Shared.TypeIs { s with heap := s.heap.push (newS w) } (.ref s.heap.objs.size) "set" := ⟨_, hS, rfl⟩
    have m6 := F.called_set.init.lookup
    have m7 := F.called_set.init.bind (.ref s.heap.objs.size)
    repeat any_goals first | assumption | wp_step
    refine codeAny_mono (codeAny_call_builtin (R := wants (fun r t => r = .none ∧ ∃ h' tk, t = { s with heap := h', toks := tk } ∧ SetT w h' s.heap.objs.size (distT xs) ∧
        (∀ b o, s.heap.get? b = some o → h'.get? b = some o)) E) F.called_set.init.plain F.entry_set_init (check_set_init_1 hT ?_)) fun r t hr => ?_
    · obtain ⟨⟨oc, od, odt, osl⟩, ho, hcl, nl, hdl⟩ := hl
      simp only at hcl hdl
      subst hcl hdl
      have ho' := Heap.get?_push_of_some (newS w) ho
      have m8 := F.sub_list_set
      have m9 := F.sub_list_frozenset
      have ne : (Value.type "list" == Value.type "dict") = false := by decide
      have hl1 : (s.heap.push (newS w)).IsList a items := ⟨_, ho', rfl, nl, rfl⟩
      unfold Builtin.«set.__init__»
      unfold noKeywords Builtin.Frozenset.updateFrom
      generalize hg : pyIter = it
      wp_walk
      subst hg
      refine wpAny_pyIter_list hl1 (wpAny_bind (wpAny_runValue ?_))
      have la : a < s.heap.objs.size := Heap.lt_size ho
      have sz : (s.heap.push (newS w)).objs.size = s.heap.objs.size + 1 := Heap.size_push ..
      have na : a ≠ (s.heap.push (newS w)).objs.size := Nat.ne_of_lt (by rw [sz]; exact Nat.lt_succ_of_lt la)
      refine updT ((Walks.list (by simp [hh]) _ a na items).toS) s.heap.objs.size (fun z => ?_) xs size room (fun i v z => str_at hi i v (by rw [Array.getElem?_toList]; exact z)) (items.size - 0) 0 _ (by omega) (Nat.zero_le _)
        ⟨⟨_, Heap.get?_push_size _ rfl, rfl, rfl⟩, hl1.push _⟩ (newS_at (Heap.get?_push_of_some _ hS)) fun t m q => ?_
      · rcases List.mem_cons.mp z with y | y
        · exact absurd (y.trans sz) (Nat.ne_of_lt (Nat.lt_succ_self _))
        · exact absurd (List.mem_singleton.mp y) (Nat.ne_of_gt la)
      · obtain ⟨h', g', d', tk', o'⟩ := t
        cases (show g' = s.gens from m.gens)
        cases (show d' = s.drawn from m.drawn)
        cases (show o' = s.os from m.os)
        refine wpAny_pure (show wpAny _ _ (ret Value.none) _ _ _ from wpAny_pure ⟨rfl, h', tk', rfl, q, fun b o z => ?_⟩)
        have lb := Heap.lt_size z
        refine m.heap b o (fun y => ?_) (Heap.get?_push_of_some _ (Heap.get?_push_of_some _ z))
        rcases List.mem_cons.mp y with y | y
        · exact absurd y (Nat.ne_of_lt lb)
        · exact absurd ((List.mem_singleton.mp y).trans sz) (Nat.ne_of_lt (Nat.lt_succ_of_lt lb))
    · match r, hr with
      | .ok (.ret v), hr =>
        obtain ⟨rfl, h', tk, rfl, q, k⟩ := hr
        repeat any_goals first | assumption | wp_step
        exact h _ _ q k
      | .error e, hr => exact hr
  | .error e, hr => exact hr
end
/-- set(xs), texts -/
def rSetL (K : PySem.W.Frag) (w : World) : List V → Hp → VK → Prop := fun vs H Q => ∃ (a : Addr) (xs : List Str), vs = [.ref a] ∧ SqL K H a (xs.map V.str) ∧ xs.length + 1 < scanBound ∧
  ∀ p, H p = none → Q (.ref p) (upd H p (SetTx w p (distT xs)))
theorem cr_setL {X : Cx} (hc : X.calm = true) : CallR X (.type "set") (rSetL X.K X.w) := by
  intro pins s σ H vs us Q I r h
  obtain ⟨a, xs, rfl, hs, room, q⟩ := h
  obtain ⟨its, rv, hl, hz⟩ := I.list hs
  rw [Vals.ref1 r]
  refine call_setT xs (I.ok.hd hc) hl.isList (by simpa using rv.strs) room fun h' tk st k => ?_
  exact ⟨.ref _, _, I.laid (t' := tk) k (Nat.le_refl _) (setTx_ok st), rfl, q _ (I.hok.fresh (Nat.le_refl _))⟩
end My
/-! {e for t0 in i0 for t1 in i1}: a set of texts, by two clauses without tests -/
namespace My
open PySem PySem.Spec PyProof.Rows L2
abbrev SC (e t0 i0 t1 i1 : Expr) (b : Scope) (pos : Pos) : Expr := .SetComp e [⟨t0, i0, [], 0⟩, ⟨t1, i1, [], 0⟩] b pos
section
variable {P : Program} {w : World} {A : Around} {R : Result → Shared → Prop} {s : Shared} {e t0 i0 t1 i1 : Expr} {b : Scope} {pos : Pos} {j acc : Value} {v : Env}
theorem turn_o : compTurn (SC e t0 i0 t1 i1 b pos) 0 j acc v = (standAt i0.pos >>= fun _ => pyNext j >>= fun r => match r with
    | none => pure (.done .next)
    | some u => letOwnedTupleGo t0 j u >>= fun _ => assign t0 v u >>= fun _ => eval i1 v >>= fun x => standAt i1.pos >>= fun _ =>
      foldedSetIterable i1 v x >>= fun y => holding [y] (pyIter y) >>= fun k => runOwn (.compStart (SC e t0 i0 t1 i1 b pos) 1 k acc v) v >>= fun _ =>
      again (.compLoop (SC e t0 i0 t1 i1 b pos) 0 j acc v)) := by rfl
theorem turn_i : compTurn (SC e t0 i0 t1 i1 b pos) 1 j acc v = (standAt i1.pos >>= fun _ => pyNext j >>= fun r => match r with
    | none => pure (.done .next)
    | some u => letOwnedTupleGo t1 j u >>= fun _ => assign t1 v u >>= fun _ => (eval e v >>= fun x => standAt e.pos >>= fun _ =>
      call (.builtin "set.add") [acc, x] >>= fun _ => pure PUnit.unit) >>= fun _ => again (.compLoop (SC e t0 i0 t1 i1 b pos) 1 j acc v)) := by rfl
/-- one way of failing -/
abbrev nb (P : Program) (w : World) (A : Around) (v : Env) (R : Result → Shared → Prop) : Value → Shared → Prop := notedBy (model P w) A v fun x s' => R (.error x) s'
theorem loop_o (hs : ∀ x, foldedSetIterable i1 v x = pure x) (Z : Nat → Shared → Prop)
    (one : ∀ n s, Z n s → wpAny (model P w) A (pyNext j) (fun r s1 => match r with
      | none => R (.ok .next) s1
      | some u => wpAny (model P w) A (letOwnedTupleGo t0 j u) (fun _ s2 => wpAny (model P w) A (assign t0 v u) (fun _ s3 =>
          wpAny (model P w) A (eval i1 v) (fun x s4 => wpAny (model P w) A (pyIter x) (fun k s5 => codeAny (model P w) A (.compStart (SC e t0 i0 t1 i1 b pos) 1 k acc v)
            (fun r s6 => match r with
              | .ok _ => ∃ m, m < n ∧ Z m s6
              | .error _ => False) s5) (nb P w A v R) s4) (nb P w A v R) s3) (nb P w A v R) s2) (nb P w A v R) s1) (nb P w A v R) s)
    (n : Nat) (h : Z n s) : codeAny (model P w) A (.compLoop (SC e t0 i0 t1 i1 b pos) 0 j acc v) R s := by
  refine codeAny_loop rfl Z (fun n s hz => wpAny_noted (show wpAny _ _ (compTurn (SC e t0 i0 t1 i1 b pos) 0 j acc v) _ _ s from ?_)) n h
  rw [turn_o]
  refine wpAny_bind (wpAny_standAt (wpAny_bind (wpAny_mono (one n s hz) (fun r s1 q1 => ?_) fun _ _ z => z)))
  match r with
  | none => exact wpAny_pure q1
  | some u =>
    refine wpAny_bind (wpAny_mono q1 (fun _ s2 q2 => wpAny_bind (wpAny_mono q2 (fun _ s3 q3 => wpAny_bind (wpAny_mono q3 (fun x s4 q4 => ?_) fun _ _ z => z)) fun _ _ z => z)) fun _ _ z => z)
    refine wpAny_bind (wpAny_standAt (wpAny_bind (wpAny_of_eq (hs x) (wpAny_bind (wpAny_holding (wpAny_mono q4 (fun k s5 q5 => ?_) fun _ _ z => z))))))
    refine wpAny_bind (wpAny_runOwn ?_)
    rw [Around.mark_none]
    refine codeAny_mono q5 fun r s6 q6 => ?_
    match r with
    | .ok _ => exact wpAny_pure ⟨rfl, q6⟩
    | .error _ => exact q6.elim
theorem loop_i (Z : Nat → Shared → Prop)
    (one : ∀ n s, Z n s → wpAny (model P w) A (pyNext j) (fun r s1 => match r with
      | none => R (.ok .next) s1
      | some u => wpAny (model P w) A (letOwnedTupleGo t1 j u) (fun _ s2 => wpAny (model P w) A (assign t1 v u) (fun _ s3 =>
          wpAny (model P w) A (eval e v) (fun x s4 => wpAny (model P w) A (call (.builtin "set.add") [acc, x]) (fun _ s5 => ∃ m, m < n ∧ Z m s5)
            (nb P w A v R) s4) (nb P w A v R) s3) (nb P w A v R) s2) (nb P w A v R) s1) (nb P w A v R) s)
    (n : Nat) (h : Z n s) : codeAny (model P w) A (.compLoop (SC e t0 i0 t1 i1 b pos) 1 j acc v) R s := by
  refine codeAny_loop rfl Z (fun n s hz => wpAny_noted (show wpAny _ _ (compTurn (SC e t0 i0 t1 i1 b pos) 1 j acc v) _ _ s from ?_)) n h
  rw [turn_i]
  refine wpAny_bind (wpAny_standAt (wpAny_bind (wpAny_mono (one n s hz) (fun r s1 q1 => ?_) fun _ _ z => z)))
  match r with
  | none => exact wpAny_pure q1
  | some u =>
    refine wpAny_bind (wpAny_mono q1 (fun _ s2 q2 => wpAny_bind (wpAny_mono q2 (fun _ s3 q3 => ?_) fun _ _ z => z)) fun _ _ z => z)
    refine wpAny_bind (wpAny_bind (wpAny_mono q3 (fun x s4 q4 => wpAny_bind (wpAny_standAt (wpAny_bind (wpAny_mono q4 (fun _ s5 q5 => ?_) fun _ _ z => z)))) fun _ _ z => z))
    exact wpAny_pure (wpAny_pure ⟨rfl, q5⟩)
/-- the second clause begins -/
theorem start_i (h0 : codeAny (model P w) A (.compLoop (SC e t0 i0 t1 i1 b pos) 1 j acc v) R s)
    (h : wpAny (model P w) A (pyIter j) (fun k s1 => codeAny (model P w) A (.compLoop (SC e t0 i0 t1 i1 b pos) 1 k acc v) R s1) (nb P w A v R) s) :
    codeAny (model P w) A (.compStart (SC e t0 i0 t1 i1 b pos) 1 j acc v) R s := by
  refine codeAny_of_tree (wpAny_notedAt ?_)
  unfold compStart
  refine wpAny_bind (m := ask) (wpAny_askSetting (wpAny_ite ?_))
  split
  · first
      | exact wpAny_pure ⟨rfl, h0⟩
      | exact wpAny_bind (wpAny_pure (wpAny_pure ⟨rfl, h0⟩))
  · refine wpAny_bind (wpAny_rule ?_)
    refine wpAny_bind (m := standAt i1.pos) (wpAny_standAt (wpAny_bind (wpAny_mono h (fun k s1 q => wpAny_pure ⟨rfl, q⟩) fun _ _ z => z)))
end
end My
namespace My
open PySem PySem.Spec PyProof.Rows L2
section
variable {X : Cx}
/-- set.add over the layer -/
theorem addT_at {pins : List (Addr × Obj)} {σ : L2.St} {H : Hp} {s : Shared} {E : Value → Shared → Prop} {d : Addr} {xs : List Str} {c : Str} {u : Value} {Q : Value → Shared → Prop}
    (I : Inv X pins σ H s) (hd : H d = some (SetTx X.w d xs)) (room : xs.length + 1 < scanBound) (hu : RelV (.str c) u)
    (h : ∀ s', Inv X pins σ (upd H d (SetTx X.w d (withT xs c))) s' → Q .none s') :
    wpAny (model X.prog X.w) X.A (call (.builtin "set.add") [.ref d, u]) Q E s := by
  obtain ⟨tk, rfl⟩ : ∃ tk, u = .str c tk := hu
  refine addS (I.hok d _ hd).1 room fun h' sb new => ?_
  have ex : ∃ o, h'.get? d = some o := new.at_.elim fun o z => z.elim fun _ z => z.elim fun _ z => z.elim fun _ z => ⟨o, z.1⟩
  exact h _ (I.write (e := d) (t' := s.toks + 1) (by rw [hd]; trivial) (.inl rfl) (fun b o nb hb => (sb.2 b nb).trans hb) ex (setTx_ok new))
/-- {e for t0 in i0 for t1 in i1}, texts; d the new set; vs: all names of the block, vs1: those of the second target -/
def tSc2 (w : World) (wi : TI) (g : TG) (wi1 : TI) (g1 : TG) (te : TE) (vs vs1 : List Nat) : TE := fun σ H Q =>
  wi σ H fun J H1 => ∀ d, H1 d = none → ∃ W : Nat → Nat → Hp → Prop, (∃ m, W 0 m (upd H1 d (SetTx w d []))) ∧ ∀ i m G, W i m G →
    (J.stop i G ∧ Q (.ref d) G) ∨ (J.go i G ∧ ∃ Nx : Hp → Prop, (∀ G', Nx G' → ∃ n, n < m ∧ W (i + 1) n G') ∧
      ∀ x G', J.yld i G x G' → g x (wipe σ vs) G' fun τ G2 => wipe τ vs = wipe σ vs ∧ wi1 τ G2 fun J1 G3 =>
        ∃ U : Nat → Nat → Hp → Prop, (∃ m, U 0 m G3) ∧ ∀ j k G, U j k G → (J1.stop j G ∧ Nx G) ∨ (J1.go j G ∧ ∃ Ny : Hp → Prop, (∀ G', Ny G' → ∃ n, n < k ∧ U (j + 1) n G') ∧
          ∀ y G', J1.yld j G y G' → g1 y (wipe τ vs1) G' fun υ G5 => wipe υ vs1 = wipe τ vs1 ∧ te υ G5 fun z G6 =>
            ∃ (c : Str) (xs : List Str), z = .str c ∧ G6 d = some (SetTx w d xs) ∧ xs.length + 1 < scanBound ∧ Ny (upd G6 d (SetTx w d (withT xs c)))))
theorem pe_sc2 {e t0 i0 t1 i1 : Expr} {b : Scope} {own : List (Str × Nat)} {vs1 : List Nat} {pos : Pos} {wi wi1 : TI} {g g1 : TG} {te : TE}
    (hc : X.calm = true) (hN : X.N.Nodup) (hi : PI X t0 i0 wi) (ok : BlkOk X.N X.env.scope b own) (hv : ∀ i ∈ vs1, i ∈ own.map (·.2))
    (hg : ∀ (s : Shared) (H : Hp) (c : Addr) (cl : List (Str × Addr)) (fp : List Addr), PG (X.blk s H b (compEnvC b cl c X.env) fp) t0 g)
    (hi1 : ∀ (s : Shared) (H : Hp) (c : Addr) (cl : List (Str × Addr)) (fp : List Addr), PI (X.blk s H b (compEnvC b cl c X.env) fp) t1 i1 wi1)
    (hg1 : ∀ (s : Shared) (H : Hp) (c : Addr) (cl : List (Str × Addr)) (fp : List Addr), PG (X.blk s H b (compEnvC b cl c X.env) fp) t1 g1)
    (he : ∀ (s : Shared) (H : Hp) (c : Addr) (cl : List (Str × Addr)) (fp : List Addr), PE (X.blk s H b (compEnvC b cl c X.env) fp) e te)
    (hs : ∀ x, foldedSetIterable i0 X.env x = pure x := by intro _; rfl) (hs1 : ∀ env x, foldedSetIterable i1 env x = pure x := by intro _ _; rfl) :
    PE X (SC e t0 i0 t1 i1 b pos) (tSc2 X.w wi g wi1 g1 te (own.map (·.2)) vs1) := by
  refine ⟨fun pins s σ H Q I h => ?_⟩
  rw [PpSet.eval_SetComp]
  have fr : ∀ y ∈ b.names, y.2 = .free → ∃ c, X.env.cells.lookup y.1 = some c := fun y hy z => I.ok.has _ ((ok.free y hy z).elim .inl .inr)
  refine wpAny_comprehension_free (use := none) rfl hs (closure_ok fr) ok.kind (fun y hy z => by rw [ok.uniq y hy, z])
    (thn (hi.run pins s σ H _ I h) fun xv s1 hx => thn hx fun itv s2 h2 => ?_)
  obtain ⟨it, fp, tn, J, H2, rfl, I2, T, st2, f2, q⟩ := h2
  refine newSet_run (newEnv_comp ?_)
  have nd : H2 s2.heap.objs.size = none := I2.hok.fresh (Nat.le_refl _)
  obtain ⟨W, ⟨m0, w0⟩, turn⟩ := q _ nd
  have kp : ∀ a o, s2.heap.get? a = some o → (s2.heap.push (newS X.w)).get? a = some o := fun a o z => Heap.get?_push_of_some _ z
  have I3 : Inv X pins σ (upd H2 s2.heap.objs.size (SetTx X.w s2.heap.objs.size [])) ({ s2 with heap := s2.heap.push (newS X.w) } : Shared) :=
    I2.laid (t' := s2.toks) kp (Nat.le_refl _) (setTx_ok newS_ok)
  have e3 : ({ s2 with heap := s2.heap.push (newS X.w) } : Shared).heap.objs.size = s2.heap.objs.size + 1 := Heap.size_push ..
  have below : ∀ c ∈ fp, c < s2.heap.objs.size := fun c hc => (T.obj _ _ st2 c hc).elim fun o z => Heap.lt_size z.1
  have f3 : ∀ c ∈ fp, FpOk X pins (upd H2 s2.heap.objs.size (SetTx X.w s2.heap.objs.size [])) c ∧ c < ({ s2 with heap := s2.heap.push (newS X.w) } : Shared).heap.objs.size := fun c hc =>
    ⟨⟨by rw [upd_ne (Nat.ne_of_lt (below c hc))]; exact (f2 c hc).1, (f2 c hc).2⟩, by rw [e3]; exact Nat.lt_succ_of_lt (below c hc)⟩
  have st3 : tn 0 ({ s2 with heap := s2.heap.push (newS X.w) } : Shared).heap := T.keep _ _ _ st2 fun a _ o z => kp a o z
  generalize s2.heap.objs.size = d at nd w0 turn I3 f3 ⊢
  generalize hs3 : ({ s2 with heap := s2.heap.push (newS X.w) } : Shared) = s3 at I3 f3 st3 ⊢
  generalize hH3 : upd H2 d (SetTx X.w d []) = H3 at I3 f3 w0
  have I4 := block_start I3 ok hN f3
  generalize hcl : cellsFrom (s3.heap.objs.size + 1) b.names (cloFrom X.env.cells b.names []) = cl at I4 ⊢
  have G0 := hg s3 H3 s3.heap.objs.size cl fp
  have J1 := hi1 s3 H3 s3.heap.objs.size cl fp
  have G1 := hg1 s3 H3 s3.heap.objs.size cl fp
  have E1 := he s3 H3 s3.heap.objs.size cl fp
  generalize hce : compEnvC b cl s3.heap.objs.size X.env = ce at I4 G0 J1 G1 E1
  have cL : ce.locals = s3.heap.objs.size := by rw [← hce]; rfl
  show codeAny _ _ (.compStart (SC e t0 i0 t1 i1 b pos) 0 (.ref it) (.ref d) (compEnvC b cl s3.heap.objs.size X.env)) (compPost (model X.prog X.w) X.A X.xe none (EP X pins σ Q) (.ref d) s3.heap.objs.size) { s3 with heap := pushCells (s3.heap.push { cls := .type "dict", data := .dict #[] }) b.names }
  rw [hce]
  generalize hs4 : ({ s3 with heap := pushCells (s3.heap.push { cls := .type "dict", data := .dict #[] }) b.names } : Shared) = s4 at I4 ⊢
  have st4 : tn 0 s4.heap := T.keep _ _ _ st3 fun a _ o z => by rw [← hs4]; exact pushCells_keeps _ _ _ _ (Heap.get?_push_of_some _ z)
  have n3 : ∀ c ∈ fp, H3 c = none := fun c hc => (f3 c hc).1.1
  -- what the block owes of the first iterator's own objects
  have own0 : ∀ {τ : L2.St} {G : Hp} {t : Shared}, Inv (X.blk s3 H3 b ce fp) [] τ G t → (∀ c ∈ fp, G c = none) → ∀ c ∈ fp, FpOk (X.blk s3 H3 b ce fp) [] G c := fun J hn c hc =>
    ⟨hn c hc, (J.ok.exf c hc).1, J.ok.exfs c hc, .inl hc, fun x a z => (J.ok.exf c hc).2 x a z, fun p hp => nomatch (show p ∈ ([] : List (Addr × Obj)) from hp)⟩
  have main : codeAny (model X.prog X.w) X.A (.compLoop (SC e t0 i0 t1 i1 b pos) 0 (.ref it) (.ref d) ce) (compPost (model X.prog X.w) X.A X.xe none (EP X pins σ Q) (.ref d) s3.heap.objs.size) s4 := by
    refine loop_o (hs1 ce) (fun n t => ∃ i G, Inv (X.blk s3 H3 b ce fp) [] (wipe σ (own.map (·.2))) G t ∧ tn i t.heap ∧ (∀ c ∈ fp, G c = none) ∧ W i n G) ?_ m0 ⟨0, H3, I4, st4, n3, w0⟩
    rintro n t5 ⟨i, G5, I5, st5, n5, w5⟩
    rcases turn i n G5 w5 with ⟨stop, fin⟩ | ⟨go, Nx, less, step⟩
    · refine thnF (T.done (X.blk s3 H3 b ce fp) rfl rfl rfl hc i [] t5 _ G5 (fun _ _ => False) I5 (own0 I5 n5) st5 stop) fun r t6 ⟨hr, I6⟩ => ?_
      subst hr
      have I7 : Inv X pins σ G5 t6 := I3.call' (ch := fp) I6.os I6.base I6.hok I6.bare fun c hc =>
        have f := (f3 c hc).1
        ⟨f.2.2.2.1, f.2.1, f.2.2.2.2.1, f.2.2.2.2.2⟩
      have nc : G5 s3.heap.objs.size = none := cL ▸ (show G5 ce.locals = none from I6.free)
      obtain ⟨m, hm, _⟩ := I6.loc
      obtain ⟨g0, g1, g2, g3, g4, g5⟩ := I3.fpOk (Nat.le_refl _) nc
      refine ⟨m, cL ▸ (show t6.heap.Ns ce.locals m from hm), fun h'' sb => ?_⟩
      exact ⟨.ref d, G5, I7.turned (t' := t6.toks) (fun a o na z => (sb.2 a na).trans z) g0 g1 g3 g4 g5, rfl, fin⟩
    · refine thnF (T.item (X.blk s3 H3 b ce fp) rfl rfl rfl hc i [] t5 _ G5 (fun _ _ => False) I5 (own0 I5 n5) st5 go) fun r t6 ⟨u, hr, h6⟩ => ?_
      subst hr
      refine thnF h6 fun _ t7 ⟨x, G7, I7, r7, y7, st7, n7⟩ => ?_
      refine thnF (G0.run _ t7 _ G7 x u _ (I7.pinned (own0 I7 n7) (T.obj _ _ st7)) r7 (step x G7 y7)) fun _ t8 ⟨τ, G8, I8, wp, q8⟩ => ?_
      refine thnF (J1.run _ t8 τ G8 _ I8 q8) fun xv t9 hx => thnF hx fun itv t10 h10 => ?_
      obtain ⟨it1, fp1, tn1, K1, G10, rfl, I10, T1, st10, f10, U, ⟨m1, u1⟩, turn1⟩ := h10
      have own1 : ∀ {G : Hp}, (∀ c ∈ fp1, G c = none) → ∀ c ∈ fp1, FpOk (X.blk s3 H3 b ce fp) ([] ++ pinsAt fp t7.heap) G c := fun hn c hc => ⟨hn c hc, (f10 c hc).2⟩
      have inner : codeAny (model X.prog X.w) X.A (.compLoop (SC e t0 i0 t1 i1 b pos) 1 (.ref it1) (.ref d) ce)
          (fun r t => match r with
            | .ok _ => ∃ m, m < n ∧ ∃ i G, Inv (X.blk s3 H3 b ce fp) [] (wipe σ (own.map (·.2))) G t ∧ tn i t.heap ∧ (∀ c ∈ fp, G c = none) ∧ W i m G
            | .error _ => False) t10 := by
        refine loop_i (fun k t => ∃ j G, Inv (X.blk s3 H3 b ce fp) ([] ++ pinsAt fp t7.heap) (wipe τ vs1) G t ∧ tn1 j t.heap ∧ (∀ c ∈ fp1, G c = none) ∧ U j k G) ?_ m1
          ⟨0, G10, I10.weak (wipe_length _ _) (fun j v z => (wipe_some z).1), st10, fun c hc => (f10 c hc).1, u1⟩
        rintro k t12 ⟨j, G12, I12, st12, n12, u12⟩
        rcases turn1 j k G12 u12 with ⟨stop1, nx⟩ | ⟨go1, Ny, less1, step1⟩
        · refine thnF (T1.done (X.blk s3 H3 b ce fp) rfl rfl rfl hc j _ t12 (wipe τ vs1) G12 (fun _ _ => False) I12 (own1 n12) st12 stop1) fun r t13 ⟨hr, I13⟩ => ?_
          subst hr
          obtain ⟨m, hm, w⟩ := less _ nx
          have pin : ∀ c ∈ fp, ∀ o, t7.heap.get? c = some o → t13.heap.get? c = some o ∧ G12 c = none := fun c hc o z =>
            let y := I13.pin (c, o) (List.mem_append_right _ (List.mem_append_right _ (mem_pinsAt hc z)))
            ⟨y.1, y.2.1⟩
          refine ⟨m, hm, i + 1, G12, (I13.unpinned (pins := [])).weak ?_ (fun a v z => ?_), T.keep _ _ _ st7 fun c hc o z => (pin c hc o z).1, fun c hc => ?_, w⟩
          · rw [← wp, wipe_length, wipe_length]
          · rw [← wp] at z
            obtain ⟨z1, z2⟩ := wipe_some z
            rw [wipe_out fun y => z2 (hv a y)]
            exact z1
          · obtain ⟨o, z, _⟩ := T.obj _ _ st7 c hc
            exact (pin c hc o z).2
        · refine thnF (T1.item (X.blk s3 H3 b ce fp) rfl rfl rfl hc j _ t12 (wipe τ vs1) G12 (fun _ _ => False) I12 (own1 n12) st12 go1) fun r t13 ⟨u1, hr, h13⟩ => ?_
          subst hr
          refine thnF h13 fun _ t14 ⟨x1, G14, I14, r14, y14, st14, n14⟩ => ?_
          refine thnF (G1.run _ t14 (wipe τ vs1) G14 x1 u1 _ (I14.pinned (own1 n14) (T1.obj _ _ st14)) r14 (step1 x1 G14 y14)) fun _ t15 ⟨υ, G15, I15, wp1, q15⟩ => ?_
          refine thnF (E1.run _ t15 υ G15 _ I15 q15) fun z t16 ⟨yv, G16, I16, r16, c, xs, hy, hd, room, nx⟩ => ?_
          subst hy
          refine addT_at (X := X.blk s3 H3 b ce fp) I16 hd room r16 fun t17 I17 => ?_
          obtain ⟨m, hm, w⟩ := less1 _ nx
          have pin : ∀ c ∈ fp1, ∀ o, t14.heap.get? c = some o → t17.heap.get? c = some o ∧ _ = none := fun c hc o z =>
            let y := I17.pin (c, o) (List.mem_append_right _ (List.mem_append_right _ (mem_pinsAt hc z)))
            ⟨y.1, y.2.1⟩
          refine ⟨m, hm, j + 1, _, I17.unpinned.weak (by rw [← wp1, wipe_length]) (fun a v z => by rw [← wp1] at z; exact (wipe_some z).1), T1.keep _ _ _ st14 fun c hc o z => (pin c hc o z).1, fun c hc => ?_, w⟩
          obtain ⟨o, z, _⟩ := T1.obj _ _ st14 c hc
          exact (pin c hc o z).2
      exact start_i inner (T1.self X.A 0 _ _ _ st10 inner)
  exact PpSet.codeAny_compStart_set main (T.self X.A 0 _ _ _ st4 main)
end
end My
/-! calls by keywords alone; rules with K a letter; order of texts -/
namespace My
open PySem PySem.Spec PyProof.Rows L2
section
variable {X : Cx} {K : PySem.W.Frag}
theorem sortedLK (e : X.K = K) : CallR X (.builtin "sorted") (rSortedL K) := e ▸ cr_sortedL
theorem setLK (e : X.K = K) (hc : X.calm = true) : CallR X (.type "set") (rSetL K X.w) := e ▸ cr_setL hc
theorem allBK (e : X.K = K) (hc : X.calm = true) : CallR X (.builtin "all") (rAll K) := e ▸ cr_all hc
end
section
variable {X : Cx}
/-- a if c else b, as a test -/
theorem pt_ifE {c a b : Expr} {pos : Pos} {tc ta tb : TT} (hc : PT X c tc) (ha : PT X a ta) (hb : PT X b tb) :
    PT X (.IfExp c a b pos) (fun σ H Q => tc σ H fun v H1 => if v = true then ta σ H1 Q else tb σ H1 Q) := by
  refine ⟨fun pins s σ H Q I h => isTrue_IfExp (thn (hc.run pins s σ H _ I h) fun v s1 z => ?_)⟩
  obtain ⟨H1, I1, q⟩ := z
  match v, q with
  | true, q => exact ha.run pins s1 σ H1 Q I1 q
  | false, q => exact hb.run pins s1 σ H1 Q I1 q
end
section
variable {X : Cx} {CX : CXT} {k : Nat} {f : Addr} {fd : FuncData} {ps ks : List Str} {sp : Sp} {E : XK} {x : Str} {p pos : Pos} {kws : List Keyword} {tk : TA}
  {g : List Value → List Value → List Value} {gV : List V → List V → List V}
/-- f(k = v, ..): no values by place -/
theorem pe_callKw (F : FnOk X.prog X.w X.K X.mg X.base CX k f fd ps sp) (hr : Room k X.A) (hg : Gl X x) (hm : X.mg x = some (.ref f)) (kp : PySem.W.keepIn X.K (.ref f) = true)
    (hb : KBinds X.K fd ps ks g gV) (hx : Passes CX X E) (hkw : PK X kws tk) (hall : (backToKw pos (keywordEach kws X.env)).all (·.1.isSome) = true := by rfl)
    (hks : (backToKw pos (keywordEach kws X.env)).filterMap (·.1) = ks := by rfl) (hdb : (x == ("__debug__" : Str)) = false := by decide)
    (hpl : ((backTo pos (starEach [] X.env)).any (·.1) || (backToKw pos (keywordEach kws X.env)).any (·.1.isNone)) = false := by rfl) :
    PE X (.Call (.Name x p) [] kws pos) (fun σ H Q => tk σ H fun zs H2 => sp (gV [] zs) H2 Q E) := by
  refine ⟨fun pins s σ H Q I h => wpAny_Call_Name_kw (ld_glob I hg hm ?_ hdb)⟩
  refine PySem.W.callWith_KW0 (h₀ := X.base) I.ok.mod.kin kp hall (thn (hkw.run pos pins s σ H _ I h) fun ws s2 ⟨zs, H2, I2, rz, q⟩ => ⟨I2.kIn, ?_⟩) hpl
  rw [hks]
  exact run_fnk (us := []) (vs := []) F hr hb hx I2 .nil rz q
end
/-- by one name; by two, the second parameter's first -/
def kw1 {α : Type} : List α → List α → List α
  | [], [a] => [a]
  | _, _ => []
def kw2 {α : Type} : List α → List α → List α
  | [], [a, b] => [b, a]
  | _, _ => []
theorem kw1_rel : ∀ {vs : List V} {us : List Value} {zs : List V} {ws : List Value}, Vals vs us → Vals zs ws → Vals (kw1 vs zs) (kw1 us ws)
  | _, _, _, _, .nil, .nil => .nil
  | _, _, _, _, .nil, .cons a .nil => .cons a .nil
  | _, _, _, _, .nil, .cons a (.cons b r) => .nil
  | _, _, _, _, .cons a r, .nil => .nil
  | _, _, _, _, .cons a r, .cons b .nil => .nil
  | _, _, _, _, .cons a r, .cons b (.cons c d) => .nil
theorem kw2_rel : ∀ {vs : List V} {us : List Value} {zs : List V} {ws : List Value}, Vals vs us → Vals zs ws → Vals (kw2 vs zs) (kw2 us ws)
  | _, _, _, _, .nil, .nil => .nil
  | _, _, _, _, .nil, .cons a .nil => .nil
  | _, _, _, _, .nil, .cons a (.cons b .nil) => .cons b (.cons a .nil)
  | _, _, _, _, .nil, .cons a (.cons b (.cons c d)) => .nil
  | _, _, _, _, .cons a r, .nil => .nil
  | _, _, _, _, .cons a r, .cons b .nil => .nil
  | _, _, _, _, .cons a r, .cons b (.cons c .nil) => .nil
  | _, _, _, _, .cons a r, .cons b (.cons c (.cons d e)) => .nil
theorem fun_kb {K : PySem.W.Frag} {x qual : Str} {st : Stmt} {f : Addr} {fd : FuncData} {ps ks : List Str} {g : List Value → List Value → List Value} {gV : List V → List V → List V} (F : Fun K x qual st f fd)
    (h : ∀ (kV doc pm : Value) (an : Option Addr) (cdv ct : Value) (us ws : List Value), (g us ws).length = ps.length →
      bindArgs (PySem.W.fnOf x qual (defArgs st) (defBody st) (defScope st) .none kV doc pm an cdv ct) ⟨us, ks.zip ws⟩ = pure (ps.zip (g us ws)))
    (rel : ∀ {vs : List V} {us : List Value} {zs : List V} {ws : List Value}, Vals vs us → Vals zs ws → Vals (gV vs zs) (g us ws)) : KBinds K fd ps ks g gV := by
  obtain ⟨oc, od, kV, doc, pm, an, cdv, ct, osl, rfl, lk, hcd⟩ := F.ex
  exact ⟨fun s us ws _ hl => .of_eq (h kV doc pm an cdv ct us ws hl), rel⟩
/-! ### one order alone -/
theorem str_anti {a b : Str} (h1 : ¬ a.cps.toList < b.cps.toList) (h2 : ¬ b.cps.toList < a.cps.toList) : a = b := by
  have e : a.cps.toList = b.cps.toList := List.le_antisymm (List.not_lt.mp h2) (List.not_lt.mp h1)
  obtain ⟨x⟩ := a
  obtain ⟨y⟩ := b
  exact congrArg Str.mk (Array.toList_inj.mp e)
theorem sorted_one {xs ys : List Str} (h : xs.Perm ys) (hx : Sorted xs) (hy : Sorted ys) : xs = ys :=
  h.eq_of_pairwise (fun a b _ _ p q => str_anti q p) hx hy
end My
/-! the bag of draws, apart from all else; boards as data -/
namespace My
open PySem PySem.Spec PyProof.Rows L2
/-! ### the heap without the two objects that draws change -/
def Off (b l : Addr) (H : Hp) : Hp := fun c => if c = b ∨ c = l then none else H c
theorem off_eq {b l c : Addr} {H : Hp} (h1 : c ≠ b) (h2 : c ≠ l) : Off b l H c = H c := if_neg fun z => z.elim h1 h2
theorem off_some {b l c : Addr} {H : Hp} {o : HO} (h : Off b l H c = some o) : c ≠ b ∧ c ≠ l ∧ H c = some o := by
  unfold Off at h
  split at h
  · cases h
  · rename_i z
    exact ⟨fun e => z (.inl e), fun e => z (.inr e), h⟩
abbrev Ext (b l : Addr) (H H' : Hp) : Prop := Same (Off b l H) (Off b l H')
theorem Ext.refl (b l : Addr) (H : Hp) : Ext b l H H := Same.refl _
theorem Ext.trans {b l : Addr} {H H1 H2 : Hp} (x : Ext b l H H1) (y : Ext b l H1 H2) : Ext b l H H2 := Same.trans x y
theorem Ext.of_same {b l : Addr} {H H' : Hp} (s : Same H H') : Ext b l H H' := fun c o h => by
  obtain ⟨h1, h2, h3⟩ := off_some h
  rw [off_eq h1 h2]
  exact s c o h3
theorem Ext.get {b l c : Addr} {H H' : Hp} {o : HO} (x : Ext b l H H') (h : H c = some o) (h1 : c ≠ b) (h2 : c ≠ l) : H' c = some o := by
  have z := x c o (by rw [off_eq h1 h2]; exact h)
  rw [off_eq h1 h2] at z
  exact z
theorem Ext.at_b {b l : Addr} {H : Hp} {o : HO} : Ext b l H (upd H b o) := fun c u h => by
  obtain ⟨h1, h2, h3⟩ := off_some h
  rw [off_eq h1 h2, upd_ne h1]
  exact h3
theorem Ext.at_l {b l : Addr} {H : Hp} {o : HO} : Ext b l H (upd H l o) := fun c u h => by
  obtain ⟨h1, h2, h3⟩ := off_some h
  rw [off_eq h1 h2, upd_ne h2]
  exact h3
theorem same_new {H : Hp} {p : Addr} {o : HO} (h : H p = none) : Same H (upd H p o) := fun c u e => by
  rw [upd_ne (ne_of_none e h)]
  exact e
/-- a new object that changes afterwards is none of the elder ones -/
theorem Ext.over {b l p : Addr} {H H' : Hp} {o : HO} (x : Ext b l H H') (h : H p = none) : Ext b l H (upd H' p o) := fun c u e => by
  obtain ⟨h1, h2, h3⟩ := off_some e
  rw [off_eq h1 h2, upd_ne (ne_of_none h3 h)]
  exact x.get h3 h1 h2
theorem same_over {p : Addr} {H H' : Hp} {o : HO} (x : Same H H') (h : H p = none) : Same H (upd H' p o) := fun c u e => by
  rw [upd_ne (ne_of_none e h)]
  exact x c u e
/-- the bag: its list at b, the digits at l -/
structure Bag (H : Hp) (b l : Addr) : Prop where
  ob : ∃ (i : Nat) (s n : Int), H b = some (.lst [.ref l, .int i, .int s, .int n]) ∧ 0 ≤ s ∧ s < 2305843009213693951
  ds : ∃ xs : List Int, H l = some (.lst (xs.map V.int)) ∧ ∀ x ∈ xs, 0 ≤ x
  ne : b ≠ l
theorem Bag.same {H H' : Hp} {b l : Addr} (B : Bag H b l) (s : Same H H') : Bag H' b l := by
  obtain ⟨⟨i, m, n, h1, r⟩, ⟨xs, h2, q⟩, ne⟩ := B
  exact ⟨⟨i, m, n, s _ _ h1, r⟩, ⟨xs, s _ _ h2, q⟩, ne⟩
theorem Bag.nb {H : Hp} {b l p : Addr} (B : Bag H b l) (h : H p = none) : p ≠ b := fun z => by
  obtain ⟨i, m, n, h1, _⟩ := B.ob
  rw [← z, h] at h1
  cases h1
theorem Bag.nl {H : Hp} {b l p : Addr} (B : Bag H b l) (h : H p = none) : p ≠ l := fun z => by
  obtain ⟨xs, h1, _⟩ := B.ds
  rw [← z, h] at h1
  cases h1
/-- an object that is neither of the two changes -/
theorem Bag.put {H : Hp} {b l p : Addr} {o : HO} (B : Bag H b l) (h1 : p ≠ b) (h2 : p ≠ l) : Bag (upd H p o) b l := by
  obtain ⟨⟨i, m, n, e1, r⟩, ⟨xs, e2, q⟩, ne⟩ := B
  exact ⟨⟨i, m, n, by rw [upd_ne h1.symm]; exact e1, r⟩, ⟨xs, by rw [upd_ne h2.symm]; exact e2, q⟩, ne⟩
/-- a number below count -/
def spDraw : Sp := fun vs H Q _ => ∃ (b l : Addr) (c : Int), vs = [.ref b, .int c] ∧ Bag H b l ∧ 0 < c ∧ c < 1073741824 ∧
  ∀ (r : Int) (H' : Hp), 0 ≤ r → r < c → Bag H' b l → Ext b l H H' → Q (.int r) H'
/-- a new bag -/
def spBag (K : PySem.W.Frag) : Sp := fun vs H Q _ => ∃ (a : Addr) (ns : List Int), vs = [.ref a] ∧ SqL K H a (ns.map V.int) ∧ ns.length ≤ 63 ∧
  ∀ (b l : Addr) (H' : Hp), H b = none → H l = none → Bag H' b l → Same H H' → Q (.ref b) H'
theorem item_int {ns : List Int} {i : Nat} {y : V} (h : (ns.map V.int)[i]? = some y) : ∃ z, ns[i]? = some z ∧ y = V.int z := by
  rw [List.getElem?_map] at h
  cases e : ns[i]? with
  | none =>
    rw [e] at h
    cases h
  | some z =>
    rw [e] at h
    exact ⟨z, rfl, (Option.some.inj h).symm⟩
theorem item_str {ns : List Str} {i : Nat} {y : V} (h : (ns.map V.str)[i]? = some y) : ∃ z, ns[i]? = some z ∧ y = V.str z := by
  rw [List.getElem?_map] at h
  cases e : ns[i]? with
  | none =>
    rw [e] at h
    cases h
  | some z =>
    rw [e] at h
    exact ⟨z, rfl, (Option.some.inj h).symm⟩
theorem map_at {α : Type} {f : α → V} {xs : List α} {i : Nat} {x : α} (h : xs[i]? = some x) : (xs.map f)[i]? = some (f x) := by
  rw [List.getElem?_map, h]
  rfl
theorem cut_map {α : Type} {f : α → V} {xs : List α} {lo hi : Option Int} : ∃ ys : List α, cutV (xs.map f) lo hi = ys.map f ∧ ys.length ≤ xs.length ∧ ∀ y ∈ ys, y ∈ xs := by
  have e : cutV (xs.map f) lo hi = ((xs.drop (HT.sIx (xs.map f).length 0 lo)).take
      (HT.sIx (xs.map f).length (xs.map f).length hi - HT.sIx (xs.map f).length 0 lo)).map f := by
    rw [List.map_take, List.map_drop]
    rfl
  refine ⟨_, e, ?_, fun y hy => List.mem_of_mem_drop (List.mem_of_mem_take hy)⟩
  rw [List.length_take, List.length_drop]
  omega
/-- plain signs alone -/
def Lo (z : Str) : Prop := ∀ c ∈ z.cps.toList, c < 128
theorem Lo.app {a b : Str} (ha : Lo a) (hb : Lo b) : Lo (a ++ b) := fun c h => by
  have e : (a ++ b).cps.toList = a.cps.toList ++ b.cps.toList := by
    show (a.cps ++ b.cps).toList = _
    rw [Array.toList_append]
  rw [e] at h
  rcases List.mem_append.mp h with h | h
  · exact ha c h
  · exact hb c h
theorem lo_one {c : Nat} (h : c < 128) : Lo ⟨#[c]⟩ := fun d hd => by
  have e : d = c := by simpa using hd
  rw [e]
  exact h
/-- a name of at most eight signs -/
structure Ok8 (z : Str) : Prop where
  n8 : z.length ≤ 8
  lo : Lo z
  nz : z.length = 5 → z.cps.toList[0]? ≠ some 122
/-- names of at most eight signs -/
def W8 (ws : List Str) : Prop := ∀ z ∈ ws, Ok8 z
theorem w8_nil : W8 [] := fun z h => by cases h
theorem W8.snoc {ws : List Str} {z : Str} (h : W8 ws) (hz : Ok8 z) : W8 (ws ++ [z]) := fun y hy => by
  rcases List.mem_append.mp hy with q | q
  · exact h y q
  · cases List.mem_singleton.mp q
    exact hz
theorem str_add (a b : Str) : (a ++ b).length = a.length + b.length := by first | exact strLen_append a b | exact PySem.Str.length_append a b
theorem join0 : ∀ ws : List Str, (∀ z ∈ ws, z.length = 1) → (Str.join "" ws).length = ws.length
  | [], _ => rfl
  | [x], h => h x List.mem_cons_self
  | x :: y :: r, h => by
    have ih := join0 (y :: r) fun z hz => h z (List.mem_cons_of_mem _ hz)
    show (x ++ "" ++ Str.join "" (y :: r)).length = _
    rw [str_add, str_add, h x List.mem_cons_self, ih]
    have e : (("" : String) : Str).length = 0 := rfl
    rw [e, List.length_cons, List.length_cons, List.length_cons]
    omega
theorem lo_join : ∀ ws : List Str, (∀ z ∈ ws, Lo z) → Lo (Str.join "" ws)
  | [], _ => fun c h => by
    have e : (Str.join "" []).cps.toList = [] := rfl
    rw [e] at h
    cases h
  | [x], h => h x List.mem_cons_self
  | x :: y :: r, h => by
    have ih := lo_join (y :: r) fun z hz => h z (List.mem_cons_of_mem _ hz)
    show Lo (x ++ "" ++ Str.join "" (y :: r))
    refine Lo.app (Lo.app (h x List.mem_cons_self) fun c hc => ?_) ih
    have e : (("" : String) : Str).cps.toList = [] := rfl
    rw [e] at hc
    cases hc
theorem sum_ones : ∀ ws : List Str, (∀ z ∈ ws, z.length = 1) → (ws.map (·.length)).sum = ws.length
  | [], _ => rfl
  | x :: r, h => by
    have ih := sum_ones r fun z hz => h z (List.mem_cons_of_mem _ hz)
    rw [List.map_cons, List.sum_cons, ih, h x List.mem_cons_self, List.length_cons]
    omega
/-- so many names, a new list -/
def spPool : Sp := fun vs H Q _ => ∃ (b l : Addr) (c : Int), vs = [.ref b, .int c] ∧ Bag H b l ∧ 0 ≤ c ∧ c ≤ 96 ∧
  ∀ (p : Addr) (ws : List Str) (H' : Hp), H p = none → p ≠ b → p ≠ l → (ws.length : Int) = c → W8 ws →
    H' p = some (.lst (ws.map V.str)) → Bag H' b l → Ext b l H H' → Q (.ref p) H'
theorem lt_size {n m : Nat} (h : n < m) (h2 : m ≤ 1000) : n < sizeLine := small1000 (by omega)
/-! ### boards as data -/
structure Kp where
  name : Str
  room : Int
  whole : Bool
  row : List Str
structure Tm where
  least : Int
  ks : List Kp
def KpAt (H : Hp) (a : Addr) (k : Kp) : Prop := ∃ r, H a = some (.tup [.str k.name, .int k.room, .bl k.whole, .ref r]) ∧ H r = some (.lst (k.row.map V.str))
def TmAt (H : Hp) (a : Addr) (t : Tm) : Prop := ∃ (c : Addr) (as : List Addr), H a = some (.tup [.int t.least, .ref c]) ∧ H c = some (.lst (as.map V.ref)) ∧ Paired (KpAt H) as t.ks
def BdAt (H : Hp) (a : Addr) (bd : List Tm) : Prop := ∃ as : List Addr, H a = some (.lst (as.map V.ref)) ∧ Paired (TmAt H) as bd
theorem KpAt.same {H H' : Hp} (s : Same H H') {a : Addr} {k : Kp} (h : KpAt H a k) : KpAt H' a k := by
  obtain ⟨r, h1, h2⟩ := h
  exact ⟨r, s _ _ h1, s _ _ h2⟩
theorem TmAt.same {H H' : Hp} (s : Same H H') {a : Addr} {t : Tm} (h : TmAt H a t) : TmAt H' a t := by
  obtain ⟨c, as, h1, h2, h3⟩ := h
  exact ⟨c, as, s _ _ h1, s _ _ h2, L2.Paired.mapP h3 fun _ _ q => q.same s⟩
theorem BdAt.same {H H' : Hp} (s : Same H H') {a : Addr} {bd : List Tm} (h : BdAt H a bd) : BdAt H' a bd := by
  obtain ⟨as, h1, h2⟩ := h
  exact ⟨as, s _ _ h1, L2.Paired.mapP h2 fun _ _ q => q.same s⟩
theorem off_same (b l : Addr) (H : Hp) : Same (Off b l H) H := fun c o h => (off_some h).2.2
/-- what is new in H', seen from H -/
def Nw (H H' : Hp) : Hp := fun c => match H c with
  | none => H' c
  | some _ => none
theorem nw_eq {H H' : Hp} {c : Addr} (h : H c = none) : Nw H H' c = H' c := by
  unfold Nw
  rw [h]
theorem nw_some {H H' : Hp} {c : Addr} {o : HO} (h : Nw H H' c = some o) : H c = none ∧ H' c = some o := by
  unfold Nw at h
  split at h
  · rename_i e
    exact ⟨e, h⟩
  · cases h
def Of1 (d : Addr) (H : Hp) : Hp := fun c => if c = d then none else H c
theorem of1_eq {d c : Addr} {H : Hp} (h : c ≠ d) : Of1 d H c = H c := if_neg h
theorem of1_some {d c : Addr} {H : Hp} {o : HO} (h : Of1 d H c = some o) : c ≠ d ∧ H c = some o := by
  unfold Of1 at h
  split at h
  · cases h
  · rename_i z
    exact ⟨z, h⟩
theorem of1_same {d : Addr} {H H' : Hp} (s : Same H H') : Same (Of1 d H) (Of1 d H') := fun c o h => by
  obtain ⟨h1, h2⟩ := of1_some h
  rw [of1_eq h1]
  exact s c o h2
theorem of1_less (d : Addr) (H : Hp) : Same (Of1 d H) H := fun c o h => (of1_some h).2
structure KpOk (k : Kp) : Prop where
  n8 : Ok8 k.name
  r1 : 1 ≤ k.room
  r12 : k.room ≤ 12
  l12 : k.row.length ≤ 12
  w8 : W8 k.row
structure TmOk (t : Tm) : Prop where
  l0 : 0 ≤ t.least
  l9 : t.least ≤ 9
  k8 : t.ks.length ≤ 8
  ok : ∀ k ∈ t.ks, KpOk k
structure BdOk (bd : List Tm) : Prop where
  t3 : bd.length ≤ 3
  tot : (bd.flatMap (·.ks)).length ≤ 8
  ok : ∀ t ∈ bd, TmOk t
theorem paired_snoc {α β : Type} {F : α → β → Prop} {x : α} {y : β} : ∀ {xs : List α} {ys : List β}, Paired F xs ys → F x y → Paired F (xs ++ [x]) (ys ++ [y])
  | _, _, .nil, h => .cons h .nil
  | _, _, .cons h r, q => .cons h (paired_snoc r q)
theorem paired_app {α β : Type} {F : α → β → Prop} : ∀ {xs zs : List α} {ys ws : List β}, Paired F xs ys → Paired F zs ws → Paired F (xs ++ zs) (ys ++ ws)
  | _, _, _, _, .nil, h => h
  | _, _, _, _, .cons h r, q => .cons h (paired_app r q)
theorem paired_at {α β : Type} {F : α → β → Prop} : ∀ {xs : List α} {ys : List β} {i : Nat} {x : α}, Paired F xs ys → xs[i]? = some x → ∃ y, ys[i]? = some y ∧ F x y
  | _, _, _, _, .nil, e => by simp at e
  | _, _, 0, _, .cons h r, e => ⟨_, rfl, by cases e; exact h⟩
  | _, _, i + 1, _, .cons h r, e => paired_at (i := i) r e
/-- two ways that meet -/
theorem join2 {c : Bool} {ta tb : TE} {σ : L2.St} {H : Hp} {Q : VK} (φ : V → Hp → Prop) (hq : ∀ v H', φ v H' → Q v H')
    (h : (∀ v H', φ v H' → Q v H') → if c = true then ta σ H Q else tb σ H Q) : if c = true then ta σ H Q else tb σ H Q := h hq
/-- a keeper of some names -/
def spKeeper : Sp := fun vs H Q _ => ∃ (b l so : Addr) (n : Str) (ws : List Str), vs = [.ref b, .str n, .ref so] ∧ Bag H b l ∧
  H so = some (.lst (ws.map V.str)) ∧ so ≠ b ∧ so ≠ l ∧ W8 ws ∧ 12 ≤ ws.length ∧ ws.length ≤ 96 ∧ Ok8 n ∧
  ∀ (a : Addr) (k : Kp) (H' : Hp), k.name = n → KpOk k → KpAt (Nw H H') a k → Bag H' b l → Ext b l H H' → Q (.ref a) H'
/-- a board -/
def spBoard : Sp := fun vs H Q _ => ∃ (b l : Addr), vs = [.ref b] ∧ Bag H b l ∧
  ∀ (a : Addr) (bd : List Tm) (H' : Hp), BdOk bd → BdAt (Nw H H') a bd → Bag H' b l → Ext b l H H' → Q (.ref a) H'
theorem Ext.free {b l p : Addr} {H H' : Hp} (x : Ext b l H H') (h : H' p = none) (h1 : p ≠ b) (h2 : p ≠ l) : H p = none := by
  cases q : H p with
  | none => rfl
  | some o =>
    have z := x.get q h1 h2
    rw [h] at z
    cases z
theorem w8_erase {ws : List Str} {j : Nat} (h : W8 ws) : W8 (ws.eraseIdx j) := fun z hz => h z (List.mem_of_mem_eraseIdx hz)
theorem erase_map {α : Type} {f : α → V} : ∀ (l : List α) (j : Nat), (l.map f).eraseIdx j = (l.eraseIdx j).map f
  | [], _ => rfl
  | _ :: _, 0 => rfl
  | a :: r, j + 1 => congrArg (f a :: ·) (erase_map r j)
theorem Bag.tb {H : Hp} {b l : Addr} (B : Bag H b l) : H b ≠ none ∧ H l ≠ none := by
  obtain ⟨i, m, n, h1, _⟩ := B.ob
  obtain ⟨xs, h2, _⟩ := B.ds
  exact ⟨by rw [h1]; simp, by rw [h2]; simp⟩
/-- what was new stays, where draws alone changed -/
theorem nw_ext {b l : Addr} {H H' H'' : Hp} (B : Bag H b l) (x : Ext b l H' H'') : Same (Nw H H') (Nw H H'') := fun c o h => by
  obtain ⟨h1, h2⟩ := nw_some h
  rw [nw_eq h1]
  exact x.get h2 (fun z => B.tb.1 (by rw [← z]; exact h1)) (fun z => B.tb.2 (by rw [← z]; exact h1))
/-- what is new behind a later state is new -/
theorem nw_later {b l : Addr} {H H' H'' : Hp} (B : Bag H b l) (x : Ext b l H H') (B' : Bag H' b l) : Same (Nw H' H'') (Nw H H'') := fun c o h => by
  obtain ⟨h1, h2⟩ := nw_some h
  rw [nw_eq (x.free h1 (B'.nb h1) (B'.nl h1))]
  exact h2
theorem nw_upd {H H' : Hp} {d : Addr} {o : HO} : Same (Of1 d (Nw H H')) (Of1 d (Nw H (upd H' d o))) := fun c u h => by
  obtain ⟨h1, h2⟩ := of1_some h
  obtain ⟨h3, h4⟩ := nw_some h2
  rw [of1_eq h1, nw_eq h3, upd_ne h1]
  exact h4
theorem cut_pre {α : Type} {f : α → V} {xs : List α} {k : Nat} : ∃ ys : List α, cutV (xs.map f) none (some (k : Int)) = ys.map f ∧ ys.length = min k xs.length ∧ ∀ y ∈ ys, y ∈ xs := by
  refine ⟨xs.take k, ?_, List.length_take, fun y hy => List.mem_of_mem_take hy⟩
  unfold cutV
  rw [HT.sIx_none, HT.sIx_nat, List.drop_zero, List.map_take, List.length_map]
  show (xs.map f).take (min k xs.length - 0) = _
  rw [Nat.sub_zero]
  have e : xs.length = (xs.map f).length := (List.length_map _).symm
  rw [e, List.take_eq_take_iff]
  omega
theorem of2_get {f d c : Addr} {H H' : Hp} {u : HO} (h : Of1 f (Of1 d (Nw H H')) c = some u) : c ≠ f ∧ c ≠ d ∧ H c = none ∧ H' c = some u := by
  obtain ⟨h1, h2⟩ := of1_some h
  obtain ⟨h3, h4⟩ := of1_some h2
  obtain ⟨h5, h6⟩ := nw_some h4
  exact ⟨h1, h3, h5, h6⟩
theorem of2_put {f d c : Addr} {H H' : Hp} {u : HO} (h1 : c ≠ f) (h2 : c ≠ d) (h3 : H c = none) (h4 : H' c = some u) : Of1 f (Of1 d (Nw H H')) c = some u := by
  rw [of1_eq h1, of1_eq h2, nw_eq h3]
  exact h4
theorem of3_get {e f d c : Addr} {H H' : Hp} {u : HO} (h : Of1 e (Of1 f (Of1 d (Nw H H'))) c = some u) : c ≠ e ∧ c ≠ f ∧ c ≠ d ∧ H c = none ∧ H' c = some u := by
  obtain ⟨h1, h2⟩ := of1_some h
  exact ⟨h1, of2_get h2⟩
theorem of3_put {e f d c : Addr} {H H' : Hp} {u : HO} (h0 : c ≠ e) (h1 : c ≠ f) (h2 : c ≠ d) (h3 : H c = none) (h4 : H' c = some u) : Of1 e (Of1 f (Of1 d (Nw H H'))) c = some u := by
  rw [of1_eq h0]
  exact of2_put h1 h2 h3 h4
theorem seq_at {n j : Nat} (h : j < n) : seqIndex? (j : Int) n = some j := (ixN_seq (by unfold ixN; simp; omega)).1
end My
/-! boards as Python data, and how long their repr is -/
namespace My
open PySem PySem.Spec PyProof.Rows L2
def dStrs (ws : List Str) : PyData := .list (ws.map PyData.str)
def dKp (k : Kp) : PyData := .tuple [.str k.name, .int k.room, .bool k.whole, dStrs k.row]
def dTm (t : Tm) : PyData := .tuple [.int t.least, .list (t.ks.map dKp)]
def dBd (bd : List Tm) : PyData := .list (bd.map dTm)
section
variable {K : PySem.W.Frag} {H : Hp}
theorem dp_strs : ∀ ws : List Str, DpAll K H (ws.map V.str) (ws.map PyData.str)
  | [] => .nil
  | x :: r => .cons (.str x) (dp_strs r)
theorem dp_pair {α : Type} {F : Addr → α → Prop} {d : α → PyData} (h : ∀ a x, F a x → Dp K H (.ref a) (d x)) : ∀ {as : List Addr} {xs : List α}, Paired F as xs → DpAll K H (as.map V.ref) (xs.map d)
  | _, _, .nil => .nil
  | _, _, .cons q r => .cons (h _ _ q) (dp_pair h r)
theorem dp_kp {a : Addr} {k : Kp} (h : KpAt H a k) : Dp K H (.ref a) (dKp k) := by
  obtain ⟨r, h1, h2⟩ := h
  exact .tup (SqT.of h1) (.cons (.str _) (.cons (.int _) (.cons (.bl _) (.cons (.lst (SqL.of h2) (dp_strs _)) .nil))))
theorem dp_tm {a : Addr} {t : Tm} (h : TmAt H a t) : Dp K H (.ref a) (dTm t) := by
  obtain ⟨c, as, h1, h2, h3⟩ := h
  exact .tup (SqT.of h1) (.cons (.int _) (.cons (.lst (SqL.of h2) (dp_pair (fun _ _ q => dp_kp q) h3)) .nil))
theorem dp_bd {a : Addr} {bd : List Tm} (h : BdAt H a bd) : Dp K H (.ref a) (dBd bd) := by
  obtain ⟨as, h1, h2⟩ := h
  exact .lst (SqL.of h1) (dp_pair (fun _ _ q => dp_tm q) h2)
end
/-! ### sizes -/
theorem from_le : ∀ (ts : List Str) (k : Nat) (acc : Str), (textFrom k acc ts).length ≤ acc.length + piled ts
  | [], _, acc => Nat.le_refl _
  | t :: r, k, acc => by
    have ih := from_le r (k + 1) (acc ++ (if k > 0 then ", " else "" : String) ++ t)
    show (textFrom (k + 1) _ r).length ≤ _
    rw [str_add, str_add] at ih
    rw [piled_cons]
    have e : (((if k > 0 then ", " else "" : String) : Str)).length ≤ 2 := by split <;> decide
    omega
theorem list_le (ts : List Str) : (listText ts).length ≤ piled ts + 2 := by
  unfold listText
  rw [str_add]
  have h := from_le ts 0 "["
  have e1 : ((("[" : String) : Str)).length = 1 := rfl
  have e2 : ((("]" : String) : Str)).length = 1 := rfl
  omega
theorem join_le : ∀ ts : List Str, (Str.join ", " ts).length ≤ piled ts
  | [] => Nat.zero_le _
  | [x] => by
    rw [piled_cons]
    show x.length ≤ _
    omega
  | x :: y :: r => by
    have ih := join_le (y :: r)
    show (x ++ ", " ++ Str.join ", " (y :: r)).length ≤ _
    have e2 : (((", " : String) : Str)).length = 2 := rfl
    rw [str_add, str_add, e2, piled_cons]
    omega
theorem tuple_le (ts : List Str) : (tupleText ts).length ≤ piled ts + 3 := by
  unfold tupleText
  rw [str_add, str_add]
  have h := join_le ts
  have e1 : ((("(" : String) : Str)).length = 1 := rfl
  have e3 : (((if ts.length == 1 then ",)" else ")" : String) : Str)).length ≤ 2 := by split <;> decide
  omega
theorem piled_le {m : Nat} : ∀ {ts : List Str}, (∀ t ∈ ts, t.length ≤ m) → piled ts ≤ (m + 2) * ts.length
  | [], _ => Nat.zero_le _
  | t :: r, h => by
    have ih := piled_le (ts := r) fun x hx => h x (List.mem_cons_of_mem _ hx)
    have h1 := h t List.mem_cons_self
    rw [piled_cons, List.length_cons, Nat.mul_add]
    omega
theorem shownAll_len : ∀ ds : List PyData, (PyData.shownAll ds).length = ds.length
  | [] => by rw [PyData.shownAll]; rfl
  | d :: r => by rw [PyData.shownAll, List.length_cons, List.length_cons, shownAll_len r]
theorem shownAll_le {m : Nat} : ∀ {ds : List PyData}, (∀ d ∈ ds, d.shown.length ≤ m) → ∀ t ∈ PyData.shownAll ds, t.length ≤ m
  | [], _, t, ht => by rw [PyData.shownAll] at ht; cases ht
  | d :: r, h, t, ht => by
    rw [PyData.shownAll] at ht
    rcases List.mem_cons.mp ht with e | e
    · rw [e]
      exact h d List.mem_cons_self
    · exact shownAll_le (fun x hx => h x (List.mem_cons_of_mem _ hx)) t e
theorem list_shown {m n : Nat} {ds : List PyData} (h : ∀ d ∈ ds, d.shown.length ≤ m) (hn : ds.length ≤ n) : (PyData.list ds).shown.length ≤ (m + 2) * n + 2 := by
  rw [PyData.shown]
  have h1 := list_le (PyData.shownAll ds)
  have h2 := piled_le (shownAll_le h)
  rw [shownAll_len] at h2
  have h3 : (m + 2) * ds.length ≤ (m + 2) * n := Nat.mul_le_mul_left _ hn
  omega
theorem int_shown {i : Int} (h0 : 0 ≤ i) (h1 : i ≤ 12) : (PyData.int i).shown.length ≤ 2 := by
  rw [PyData.shown]
  have e : i = 0 ∨ i = 1 ∨ i = 2 ∨ i = 3 ∨ i = 4 ∨ i = 5 ∨ i = 6 ∨ i = 7 ∨ i = 8 ∨ i = 9 ∨ i = 10 ∨ i = 11 ∨ i = 12 := by omega
  rcases e with e | e | e | e | e | e | e | e | e | e | e | e | e <;> (subst e; decide +kernel)
theorem str_shown {z : Str} (h : Ok8 z) : (PyData.str z).shown.length ≤ 82 := by
  rw [PyData.shown]
  have := StrLaws.reprText_len z fun c hc => Nat.lt_trans (h.lo c hc) (by decide)
  have := h.n8
  omega
theorem strs_shown {ws : List Str} (h : W8 ws) (hl : ws.length ≤ 12) : (dStrs ws).shown.length ≤ 1010 := by
  have q := list_shown (m := 82) (n := 12) (ds := ws.map PyData.str) (fun d hd => by
    obtain ⟨z, hz, rfl⟩ := List.mem_map.mp hd
    exact str_shown (h z hz)) (by rw [List.length_map]; exact hl)
  exact q
theorem kp_shown {k : Kp} (h : KpOk k) : (dKp k).shown.length ≤ 1200 := by
  unfold dKp
  rw [PyData.shown]
  have h1 := tuple_le (PyData.shownAll [.str k.name, .int k.room, .bool k.whole, dStrs k.row])
  rw [PyData.shownAll, PyData.shownAll, PyData.shownAll, PyData.shownAll, PyData.shownAll, piled_cons, piled_cons, piled_cons, piled_cons, piled_nil] at h1
  have a := str_shown h.n8
  have b := int_shown (i := k.room) (by have := h.r1; omega) h.r12
  have c := strs_shown h.w8 h.l12
  have d : (PyData.bool k.whole).shown.length ≤ 5 := by
    rw [PyData.shown]
    cases k.whole <;> decide
  rw [PyData.shownAll, PyData.shownAll, PyData.shownAll, PyData.shownAll, PyData.shownAll]
  omega
theorem tm_shown {t : Tm} (h : TmOk t) : (dTm t).shown.length ≤ 9700 := by
  unfold dTm
  rw [PyData.shown]
  have h1 := tuple_le (PyData.shownAll [.int t.least, .list (t.ks.map dKp)])
  rw [PyData.shownAll, PyData.shownAll, PyData.shownAll, piled_cons, piled_cons, piled_nil] at h1
  have b := int_shown (i := t.least) h.l0 (by have := h.l9; omega)
  have c := list_shown (m := 1200) (n := 8) (ds := t.ks.map dKp) (fun d hd => by
    obtain ⟨z, hz, rfl⟩ := List.mem_map.mp hd
    exact kp_shown (h.ok z hz)) (by rw [List.length_map]; exact h.k8)
  rw [PyData.shownAll, PyData.shownAll, PyData.shownAll]
  omega
theorem bd_shown {bd : List Tm} (h : BdOk bd) : (dBd bd).shown.length ≤ sizeLine := by
  have c := list_shown (m := 9700) (n := 3) (ds := bd.map dTm) (fun d hd => by
    obtain ⟨z, hz, rfl⟩ := List.mem_map.mp hd
    exact tm_shown (h.ok z hz)) (by rw [List.length_map]; exact h.t3)
  rw [sizeLine_eq]
  unfold dBd
  omega
/-! ### they can be shown -/
theorem all_showable : ∀ {ds : List PyData}, (∀ d ∈ ds, d.showable = true) → PyData.showableAll ds = true
  | [], _ => by rw [PyData.showableAll]
  | d :: r, h => by
    rw [PyData.showableAll, h d List.mem_cons_self, all_showable fun x hx => h x (List.mem_cons_of_mem _ hx)]
    rfl
theorem all_noDict : ∀ {ds : List PyData}, (∀ d ∈ ds, d.hasDict = false) → PyData.hasDictAll ds = false
  | [], _ => by rw [PyData.hasDictAll]
  | d :: r, h => by
    rw [PyData.hasDictAll, h d List.mem_cons_self, all_noDict fun x hx => h x (List.mem_cons_of_mem _ hx)]
    rfl
theorem all_depth {m : Nat} : ∀ {ds : List PyData}, (∀ d ∈ ds, d.depth ≤ m) → PyData.depthAll ds ≤ m
  | [], _ => by rw [PyData.depthAll]; exact Nat.zero_le _
  | d :: r, h => by
    rw [PyData.depthAll]
    exact Nat.max_le.mpr ⟨h d List.mem_cons_self, all_depth fun x hx => h x (List.mem_cons_of_mem _ hx)⟩
/-- it can be shown, is no dict and at most m deep -/
structure Shw (m : Nat) (d : PyData) : Prop where
  s : d.showable = true
  n : d.hasDict = false
  p : d.depth ≤ m
theorem shw_list {m : Nat} {ds : List PyData} (h : ∀ d ∈ ds, Shw m d) : Shw (m + 1) (.list ds) :=
  ⟨by rw [PyData.showable]; exact all_showable fun d hd => (h d hd).s, by rw [PyData.hasDict]; exact all_noDict fun d hd => (h d hd).n,
    by rw [PyData.depth]; exact Nat.succ_le_succ (all_depth fun d hd => (h d hd).p)⟩
theorem shw_tup {m : Nat} {ds : List PyData} (h : ∀ d ∈ ds, Shw m d) : Shw (m + 1) (.tuple ds) :=
  ⟨by rw [PyData.showable]; exact all_showable fun d hd => (h d hd).s, by rw [PyData.hasDict]; exact all_noDict fun d hd => (h d hd).n,
    by rw [PyData.depth]; exact Nat.succ_le_succ (all_depth fun d hd => (h d hd).p)⟩
theorem Shw.more {m n : Nat} {d : PyData} (h : Shw m d) (l : m ≤ n) : Shw n d := ⟨h.s, h.n, Nat.le_trans h.p l⟩
theorem shw_str (z : Str) : Shw 0 (.str z) := ⟨by rw [PyData.showable], by rw [PyData.hasDict], by rw [PyData.depth]; exact Nat.le_refl _⟩
theorem shw_bool (z : Bool) : Shw 0 (.bool z) := ⟨by rw [PyData.showable], by rw [PyData.hasDict], by rw [PyData.depth]; exact Nat.le_refl _⟩
theorem shw_int {i : Int} (h0 : 0 ≤ i) (h1 : i ≤ 1000) : Shw 0 (.int i) := ⟨by
    rw [PyData.showable]
    have q : i.natAbs.log2 < 10 := PySem.Flt.log2_lt_of (by decide) (by omega)
    exact decide_eq_true (by omega), by rw [PyData.hasDict], by rw [PyData.depth]; exact Nat.le_refl _⟩
theorem shw_strs (ws : List Str) : Shw 1 (dStrs ws) := shw_list fun d hd => by
  obtain ⟨z, _, rfl⟩ := List.mem_map.mp hd
  exact shw_str z
theorem shw_kp {k : Kp} (h : KpOk k) : Shw 2 (dKp k) := shw_tup fun d hd => by
  simp only [List.mem_cons, List.not_mem_nil, or_false] at hd
  rcases hd with e | e | e | e <;> rw [e]
  · exact (shw_str _).more (by decide)
  · exact (shw_int (by have := h.r1; omega) (by have := h.r12; omega)).more (by decide)
  · exact (shw_bool _).more (by decide)
  · exact shw_strs _
theorem shw_tm {t : Tm} (h : TmOk t) : Shw 4 (dTm t) := shw_tup fun d hd => by
  simp only [List.mem_cons, List.not_mem_nil, or_false] at hd
  rcases hd with e | e <;> rw [e]
  · exact (shw_int h.l0 (by have := h.l9; omega)).more (by decide)
  · refine shw_list fun d hd => ?_
    obtain ⟨z, hz, rfl⟩ := List.mem_map.mp hd
    exact shw_kp (h.ok z hz)
theorem shw_bd {bd : List Tm} (h : BdOk bd) : Shw 5 (dBd bd) := shw_list fun d hd => by
  obtain ⟨z, hz, rfl⟩ := List.mem_map.mp hd
  exact shw_tm (h.ok z hz)
end My
/-! pools of unlike names, boards whose keepers are called unlike -/
namespace My
open PySem PySem.Spec PyProof.Rows L2
def spPoolN : Sp := fun vs H Q _ => ∃ (b l : Addr) (c : Int), vs = [.ref b, .int c] ∧ Bag H b l ∧ 0 ≤ c ∧ c ≤ 96 ∧
  ∀ (p : Addr) (ws : List Str) (H' : Hp), H p = none → p ≠ b → p ≠ l → (ws.length : Int) = c → W8 ws → ws.Nodup →
    H' p = some (.lst (ws.map V.str)) → Bag H' b l → Ext b l H H' → Q (.ref p) H'
/-- the place that a name of the pool tells -/
def dg (z : Str) (p : Nat) : Nat := z.cps.toList.getD p 0 - 97
def kap (st c : Int) (z : Str) : Nat := if st = 0 ∧ c < 27 then dg z 0 else if st = 1 then 26 * dg z 6 + dg z 7 else 26 * dg z 0 + dg z 1
theorem kap_nd {κ : Str → Nat} {ws : List Str} (h : ∀ j z, ws[j]? = some z → κ z = j) : ws.Nodup := by
  refine List.pairwise_iff_getElem.mpr fun i j hi hj lt e => ?_
  have a := h i _ (List.getElem?_eq_getElem hi)
  have b := h j _ (List.getElem?_eq_getElem hj)
  rw [e] at a
  omega
theorem kap_snoc {κ : Str → Nat} {ws : List Str} {x : Str} (h : ∀ j z, ws[j]? = some z → κ z = j) (hx : κ x = ws.length) : ∀ j z, (ws ++ [x])[j]? = some z → κ z = j := fun j z e => by
  by_cases lt : j < ws.length
  · rw [List.getElem?_append_left lt] at e
    exact h j z e
  · rw [List.getElem?_append_right (by omega)] at e
    have lt2 := (List.getElem?_eq_some_iff.mp e).1
    rw [List.length_singleton] at lt2
    have ej : j = ws.length := by omega
    subst ej
    rw [Nat.sub_self] at e
    cases e
    exact hx
theorem pick3i {a b c : V} {st : Int} (h0 : 0 ≤ st) (h1 : st < 3) (R : V → Prop) (ha : st = 0 → R a) (hb : st = 1 → R b) (hc : st = 2 → R c) : ∃ v, atI [a, b, c] st = some v ∧ R v := by
  obtain e | e | e : st = 0 ∨ st = 1 ∨ st = 2 := by omega
  · subst e
    exact ⟨a, rfl, ha rfl⟩
  · subst e
    exact ⟨b, rfl, hb rfl⟩
  · subst e
    exact ⟨c, rfl, hc rfl⟩
theorem dg_app {a b : Str} {p : Nat} (h : p < a.cps.toList.length) : dg (a ++ b) p = dg a p := by
  unfold dg
  have e : (a ++ b).cps.toList = a.cps.toList ++ b.cps.toList := by
    show (a.cps ++ b.cps).toList = _
    rw [Array.toList_append]
  rw [e, List.getD_eq_getElem?_getD, List.getD_eq_getElem?_getD, List.getElem?_append_left h]
theorem dg_app2 {a b : Str} {p : Nat} (h : a.cps.toList.length ≤ p) : dg (a ++ b) p = dg b (p - a.cps.toList.length) := by
  unfold dg
  have e : (a ++ b).cps.toList = a.cps.toList ++ b.cps.toList := by
    show (a.cps ++ b.cps).toList = _
    rw [Array.toList_append]
  rw [e, List.getD_eq_getElem?_getD, List.getD_eq_getElem?_getD, List.getElem?_append_right h]
theorem kap1 {a b : Nat} (st c : Int) (h : 97 ≤ b) (e : st = 0) (l : c < 27) : kap st c ⟨#[b]⟩ = b - 97 := by
  unfold kap
  rw [if_pos ⟨e, l⟩]
  rfl
theorem kap2 {a b : Nat} {st c : Int} {u : Str} (hn : ¬ (st = 0 ∧ c < 27)) (h1 : st ≠ 1) : kap st c ((⟨#[a]⟩ ++ ⟨#[b]⟩ : Str) ++ u) = 26 * (a - 97) + (b - 97) := by
  unfold kap
  rw [if_neg hn, if_neg h1, dg_app (a := (⟨#[a]⟩ ++ ⟨#[b]⟩ : Str)) (b := u) (p := 0) (by show 0 < 2; decide), dg_app (a := (⟨#[a]⟩ ++ ⟨#[b]⟩ : Str)) (b := u) (p := 1) (by show 1 < 2; decide)]
  rfl
theorem kap2' {a b : Nat} {st c : Int} (hn : ¬ (st = 0 ∧ c < 27)) (h1 : st ≠ 1) : kap st c (⟨#[a]⟩ ++ ⟨#[b]⟩ : Str) = 26 * (a - 97) + (b - 97) := by
  unfold kap
  rw [if_neg hn, if_neg h1]
  rfl
theorem kap3 {a b : Nat} {st c : Int} (h1 : st = 1) : kap st c (("mnopqr" : Str) ++ (⟨#[a]⟩ ++ ⟨#[b]⟩)) = 26 * (a - 97) + (b - 97) := by
  have l6 : ("mnopqr" : Str).cps.toList.length = 6 := by decide +kernel
  unfold kap
  rw [if_neg (by omega), if_pos h1, dg_app2 (a := "mnopqr") (p := 6) (by omega), dg_app2 (a := "mnopqr") (p := 7) (by omega), l6]
  rfl
/-! ### boards -/
structure BdN (bd : List Tm) : Prop where
  ok : BdOk bd
  nd : ((bd.flatMap (·.ks)).map (·.name)).Nodup
def spBoardN : Sp := fun vs H Q _ => ∃ (b l : Addr), vs = [.ref b] ∧ Bag H b l ∧
  ∀ (a : Addr) (bd : List Tm) (H' : Hp), BdN bd → BdAt (Nw H H') a bd → Bag H' b l → Ext b l H H' → Q (.ref a) H'
theorem pick_perm {α : Type} : ∀ (l : List α) (j : Nat) (h : j < l.length), (l[j] :: l.eraseIdx j).Perm l
  | [], _, h => absurd h (Nat.not_lt_zero _)
  | _ :: _, 0, _ => List.Perm.refl _
  | a :: r, j + 1, h => (List.Perm.swap _ _ _).trans ((pick_perm r j (Nat.lt_of_succ_lt_succ h)).cons a)
theorem nd_pick {ns cs : List Str} {j : Nat} (h : (ns ++ cs).Nodup) (lt : j < cs.length) : ((ns ++ [cs[j]]) ++ cs.eraseIdx j).Nodup := by
  have p : (cs[j] :: cs.eraseIdx j).Perm cs := pick_perm cs j lt
  rw [List.append_assoc, List.singleton_append]
  exact (List.Perm.append_left ns p).nodup_iff.mpr h
theorem cut_nd {α : Type} {f : α → V} {xs : List α} {k : Nat} (h : xs.Nodup) : ∃ ys : List α, cutV (xs.map f) none (some (k : Int)) = ys.map f ∧ ys.length = min k xs.length ∧ (∀ y ∈ ys, y ∈ xs) ∧ ys.Nodup := by
  refine ⟨xs.take k, ?_, List.length_take, fun y hy => List.mem_of_mem_take hy, List.Sublist.nodup (List.take_sublist _ _) h⟩
  unfold cutV
  rw [HT.sIx_none, HT.sIx_nat, List.drop_zero, List.map_take, List.length_map]
  show (xs.map f).take (min k xs.length - 0) = _
  rw [Nat.sub_zero, ← List.length_map (f := f), List.take_eq_take_iff]
  omega
end My
/-! all(..), any(..) of a generator expression whose element may do anything: a walk by states of one's own -/
namespace My
open PySem PySem.Spec PyProof.Rows L2
abbrev GX (e : Expr) (x : Str) (px : Pos) (it : Expr) (sc : Scope) (pos : Pos) : Expr := .GeneratorExp e [⟨.Name x px, it, [], 0⟩] sc pos
/-- the around of the generator's own loop -/
abbrev ga (A : Around) (e : Expr) (x : Str) (px : Pos) (it : Expr) (sc : Scope) (pos : Pos) (I : Addr) (cv : Env) : Around := A.over (.compLoop (GX e x px it sc pos) 0 (.ref I) .none cv) []
structure GenW (P : Program) (w : World) (A : Around) (a : Addr) (g : Nat) (cv : Env) (e : Expr) (x : Str) (px : Pos) (it : Expr) (sc : Scope) (pos : Pos) (I : Addr) (n : Nat) (b : Nat → Bool)
    (J : Nat → Shared → Prop) : Prop where
  co : cv.scope.isCoroutine = false
  hd : A.handled = none
  gen : ∀ i s, J i s → s.heap.IsGen a g ∧ s.heap.NoLimit
  set : ∀ i s y, y.bare = true → J i s → J i (s.setGen g y)
  grow : ∀ i s h', J i s → (∀ c o, s.heap.get? c = some o → h'.get? c = some o) → J i { s with heap := h' }
  self : ∀ s A' Q E, J 0 s → Q (.ref I) s → wpAny (model P w) A' (pyIter (.ref I)) Q E s
  item : ∀ i s, i < n → J i s → wpAny (model P w) (ga A e x px it sc pos I cv) (pyNext (.ref I)) (fun r s1 => ∃ v, r = some v ∧
    wpAny (model P w) (ga A e x px it sc pos I cv) (letOwnedTupleGo (.Name x px) (.ref I) v) (fun _ s1 => wpAny (model P w) (ga A e x px it sc pos I cv) (assign (.Name x px) cv v) (fun _ s2 =>
      wpAny (model P w) (ga A e x px it sc pos I cv) (eval e cv) (fun y s3 => y = .bool (b i) ∧ J (i + 1) s3)
      (fun _ _ => False) s2) (fun _ _ => False) s1) (fun _ _ => False) s1) (fun _ _ => False) s
  done : ∀ s, J n s → wpAny (model P w) (ga A e x px it sc pos I cv) (pyNext (.ref I)) (fun r s1 => r = none ∧ J (n + 1) s1) (fun _ _ => False) s
/-- what is handed out, and what waking wants -/
def gY (g n : Nat) (b : Nat → Bool) (J : Nat → Shared → Prop) : Protocol := fun m _ v s kap =>
  ∃ i, i + m + 1 = n ∧ v = .bool (b i) ∧ J (i + 1) s ∧ g < s.gens.size ∧ ∀ s', J (i + 1) s' → g < s'.gens.size → kap (.send .none) s'
def gR (n : Nat) (J : Nat → Shared → Prop) : GenEnd := fun k _ r s => r = .ok .next ∧ k = 0 ∧ J (n + 1) s
section
variable {P : Program} {w : World} {A : Around} {a : Addr} {g : Nat} {cv : Env} {e : Expr} {x : Str} {px : Pos} {it : Expr} {sc : Scope} {pos : Pos} {I : Addr} {n : Nat} {b : Nat → Bool} {J : Nat → Shared → Prop}
theorem no_err {α : Type} {M : Model} {A : Around} {t : Sem α} {Q : α → Shared → Prop} {E : Value → Shared → Prop} {s : Shared} (h : wpAny M A t Q (fun _ _ => False) s) : wpAny M A t Q E s :=
  wpAny_mono h (fun _ _ z => z) fun _ _ z => z.elim
theorem g_loop (G : GenW P w A a g cv e x px it sc pos I n b J) : ∀ (k i : Nat) (s0 s : Shared), n - i = k → i ≤ n → J i s → g < s.gens.size →
    Seg (model P w) A (gR n J) (gY g n b J) k s0 (.compLoop (GX e x px it sc pos) 0 (.ref I) .none cv) ((model P w).den (.compLoop (GX e x px it sc pos) 0 (.ref I) .none cv)) [] s := by
  intro k
  induction k with
  | zero =>
    intro i s0 s hk hi hJ hg
    have e0 : i = n := by omega
    subst e0
    show Seg _ A _ _ _ s0 _ ((compTurn (GX e x px it sc pos) 0 (.ref I) .none cv).onRaise (leaving cv)) [] s
    rw [compTurn_gen, Sem.onRaise_eq_wrap]
    refine seg_bind_wrap (wpAny_standAt (seg_bind_wrap (wpAny_mono (G.done s hJ) (fun r s1 q => ?_) fun _ _ z => z.elim)))
    obtain ⟨rfl, q⟩ := q
    exact seg_end (.ok .next) ⟨rfl, rfl, q⟩
  | succ k ih =>
    intro i s0 s hk hi hJ hg
    have lt : i < n := by omega
    show Seg _ A _ _ _ s0 _ ((compTurn (GX e x px it sc pos) 0 (.ref I) .none cv).onRaise (leaving cv)) [] s
    rw [compTurn_gen, Sem.onRaise_eq_wrap]
    refine seg_bind_wrap (wpAny_standAt (seg_bind_wrap (GenW.wpAny_gsz (n := g + 1) hg (wpAny_mono (G.item i s lt hJ) (fun r s1 q g1 => ?_) fun _ _ z => z.elim))))
    obtain ⟨v, rfl, q⟩ := q
    refine seg_bind_wrap (GenW.wpAny_gsz (n := g + 1) g1 (wpAny_mono q (fun _ s1 q g1 => ?_) fun _ _ z => z.elim))
    refine seg_bind_wrap (GenW.wpAny_gsz (n := g + 1) g1 (wpAny_mono q (fun _ s2 q g2 => ?_) fun _ _ z => z.elim))
    refine seg_bind_wrap (wpAny_pure ?_)
    have hy : ∀ v, yieldOut cv v = yieldValue v := fun v => by simp only [yieldOut, G.co, Bool.false_eq_true, if_false]
    simp only [if_true, hy]
    rw [Sem.bind_eq_wrap', Sem.bind_eq_wrap', Sem.wrap_wrap, Sem.wrap_wrap]
    refine seg_wrap (GenW.wpAny_gsz (n := g + 1) g2 (wpAny_mono q (fun y s3 q g3 => ?_) fun _ _ z => z.elim))
    obtain ⟨rfl, q⟩ := q
    refine seg_at (seg_yield rfl rfl rfl ⟨i, by omega, rfl, q, g3, fun s' hJ' hg' => ?_⟩)
    exact seg_again rfl (ih (i + 1) s' s' (by omega) lt hJ' hg')
theorem g_start (G : GenW P w A a g cv e x px it sc pos I n b J) {s0 s : Shared} (hJ : J 0 s) (hg : g < s.gens.size) :
    Seg (model P w) A (gR n J) (gY g n b J) n s0 (.compStart (GX e x px it sc pos) 0 (.ref I) .none cv) ((model P w).den (.compStart (GX e x px it sc pos) 0 (.ref I) .none cv)) [] s := by
  have loop := g_loop G n 0 s0 s (Nat.sub_zero _) (Nat.zero_le _) hJ hg
  show Seg _ A _ _ _ s0 _ ((compStart (GX e x px it sc pos) 0 (.ref I) .none cv).onRaise (leaving cv)) [] s
  unfold compStart
  rw [Sem.onRaise_eq_wrap]
  refine seg_bind_wrap (m := ask) (wpAny_askSetting ?_)
  split
  · exact seg_again rfl loop
  · refine seg_bind_wrap (wpAny_rule ?_)
    exact seg_bind_wrap (m := standAt it.pos) (wpAny_standAt (seg_bind_wrap (G.self s _ _ _ hJ (seg_again rfl loop))))
/-- between two turns: i are out -/
structure GS (P : Program) (w : World) (A : Around) (a : Addr) (g n : Nat) (b : Nat → Bool) (J : Nat → Shared → Prop) (i : Nat) (s : Shared) : Prop where
  j : J i s
  lt : g < s.gens.size
  go : ∃ gs, s.gens[g]? = some gs ∧ ∀ s', J i s' → g < s'.gens.size → gs.Goes (model P w) A (gR n J) (gY g n b J) (n - i) (.send .none) s'
theorem set_at {s : Shared} {g : Nat} {y : GenState} (h : g < s.gens.size) : (s.setGen g y).gens[g]? = some y := by
  simp [Shared.setGen, h]
theorem g_fresh (G : GenW P w A a g cv e x px it sc pos I n b J) {s : Shared} (hJ : J 0 s) (hg : s.gens[g]? = some (.fresh (.compStart (GX e x px it sc pos) 0 (.ref I) .none cv))) : GS P w A a g n b J 0 s := by
  refine ⟨hJ, (Array.getElem?_eq_some_iff.mp hg).1, _, hg, fun s' hJ' hg' => ⟨rfl, ?_⟩⟩
  exact g_start G hJ' hg'
end
section
variable {P : Program} {w : World} {A : Around} {a : Addr} {g : Nat} {cv : Env} {e : Expr} {x : Str} {px : Pos} {it : Expr} {sc : Scope} {pos : Pos} {I : Addr} {n : Nat} {b : Nat → Bool} {J : Nat → Shared → Prop}
theorem g_next (G : GenW P w A.in1 a g cv e x px it sc pos I n b J) (room : A.depth < recursionLimit) {i : Nat} {s : Shared} (lt : i < n) (S : GS P w A.in1 a g n b J i s) :
    wpAny (model P w) A (pyNext (.ref a)) (fun r s1 => r = some (.bool (b i)) ∧ GS P w A.in1 a g n b J (i + 1) s1) (fun _ _ => False) s := by
  obtain ⟨hJ, hlt, gs, hgs, go⟩ := S
  obtain ⟨hg, hl⟩ := G.gen i s hJ
  obtain ⟨m, hm⟩ : ∃ m, n - i = m + 1 := ⟨n - i - 1, by omega⟩
  rw [hm] at go
  refine wpAny_pyNext_genexpQ (n := m + 1) (P := fun k _ s1 => k = 0 ∧ J (n + 1) s1) (Y := gY g n b J) G.hd hl room hg hgs (go _ (G.set i s _ rfl hJ) (by rw [GenW.setGen_size]; exact hlt)) (fun v s1 gs' bare h => ?_) (fun s1 h => nomatch h.1)
  obtain ⟨i', hi', rfl, hJ1, hg1, kap⟩ := h
  have ei : i' = i := by omega
  subst ei
  refine ⟨rfl, G.set _ _ _ bare hJ1, by rw [GenW.setGen_size]; exact hg1, gs', set_at hg1, fun s2 h2 g2 => ?_⟩
  have em : n - (i' + 1) = m := by omega
  rw [em]
  exact kap s2 h2 g2
theorem g_stop (G : GenW P w A.in1 a g cv e x px it sc pos I n b J) (room : A.depth < recursionLimit) {s : Shared} (S : GS P w A.in1 a g n b J n s) :
    wpAny (model P w) A (pyNext (.ref a)) (fun r s1 => r = none ∧ J (n + 1) s1) (fun _ _ => False) s := by
  obtain ⟨hJ, hlt, gs, hgs, go⟩ := S
  obtain ⟨hg, hl⟩ := G.gen n s hJ
  rw [Nat.sub_self] at go
  refine wpAny_pyNext_genexpQ (n := 0) (P := fun k _ s1 => k = 0 ∧ J (n + 1) s1) (Y := gY g n b J) G.hd hl room hg hgs (go _ (G.set n s _ rfl hJ) (by rw [GenW.setGen_size]; exact hlt)) (fun v s1 gs' bare h => ?_) (fun s1 h h' k => ?_)
  · obtain ⟨_, _, _, hJ1, hg1, kap⟩ := h
    exact (kap s1 hJ1 hg1).elim
  · exact ⟨rfl, G.grow (n + 1) _ h' (G.set (n + 1) s1 _ rfl h.2) k⟩
theorem all_loop (G : GenW P w A.in1.in1 a g cv e x px it sc pos I n b J) (room : A.in1.depth < recursionLimit) {R : Result → Shared → Prop} : ∀ (k i : Nat) (s : Shared), n - i = k → i ≤ n → GS P w A.in1.in1 a g n b J i s →
    (∀ j s', j ≤ n + 1 → J j s' → R (.ok (.ret (.bool (((List.range n).drop i).all b)))) s') → codeAny (model P w) A (.builtin "all.loop" ⟨[.ref a], []⟩) R s := by
  intro k
  induction k with
  | zero =>
    intro i s hk hi S hR
    have e0 : i = n := by omega
    subst e0
    refine codeAny_builtin F.entry_all_loop ?_
    rw [Around.under_plainId F.plain_all_loop _]
    refine wpAny_bind (m := pyNext (.ref a)) (no_err (wpAny_mono (g_stop G room S) (fun r s1 q => ?_) fun _ _ z => z))
    obtain ⟨rfl, q⟩ := q
    have z := hR (i + 1) s1 (Nat.le_refl _) q
    rw [List.drop_of_length_le (by simp)] at z
    exact wpAny_bind (wpAny_rule (wpAny_pure z))
  | succ k ih =>
    intro i s hk hi S hR
    have lt : i < n := by omega
    refine codeAny_builtin F.entry_all_loop ?_
    rw [Around.under_plainId F.plain_all_loop _]
    refine wpAny_bind (m := pyNext (.ref a)) (no_err (wpAny_mono (g_next G room lt S) (fun r s1 q => ?_) fun _ _ z => z))
    obtain ⟨rfl, q⟩ := q
    have dr : (List.range n).drop i = i :: (List.range n).drop (i + 1) := range_drop lt
    rw [dr, List.all_cons] at hR
    refine wpAny_bind (wpAny_holding (wpAny_truthy_bool (wpAny_bind (wpAny_letGo ?_))))
    cases hb : b i with
    | true =>
      rw [hb, Bool.true_and] at hR
      exact wpAny_pure ⟨plainId_quiet F.plain_all_loop _, ih (i + 1) s1 (by omega) lt q hR⟩
    | false =>
      rw [hb, Bool.false_and] at hR
      exact wpAny_bind (wpAny_rule (wpAny_pure (hR (i + 1) s1 (by omega) q.j)))
theorem any_loop (G : GenW P w A.in1.in1 a g cv e x px it sc pos I n b J) (room : A.in1.depth < recursionLimit) {R : Result → Shared → Prop} : ∀ (k i : Nat) (s : Shared), n - i = k → i ≤ n → GS P w A.in1.in1 a g n b J i s →
    (∀ j s', j ≤ n + 1 → J j s' → R (.ok (.ret (.bool (((List.range n).drop i).any b)))) s') → codeAny (model P w) A (.builtin "any.loop" ⟨[.ref a], []⟩) R s := by
  intro k
  induction k with
  | zero =>
    intro i s hk hi S hR
    have e0 : i = n := by omega
    subst e0
    refine codeAny_builtin F.entry_any_loop ?_
    rw [Around.under_plainId F.plain_any_loop _]
    refine wpAny_bind (m := pyNext (.ref a)) (no_err (wpAny_mono (g_stop G room S) (fun r s1 q => ?_) fun _ _ z => z))
    obtain ⟨rfl, q⟩ := q
    have z := hR (i + 1) s1 (Nat.le_refl _) q
    rw [List.drop_of_length_le (by simp)] at z
    exact wpAny_bind (wpAny_rule (wpAny_pure z))
  | succ k ih =>
    intro i s hk hi S hR
    have lt : i < n := by omega
    refine codeAny_builtin F.entry_any_loop ?_
    rw [Around.under_plainId F.plain_any_loop _]
    refine wpAny_bind (m := pyNext (.ref a)) (no_err (wpAny_mono (g_next G room lt S) (fun r s1 q => ?_) fun _ _ z => z))
    obtain ⟨rfl, q⟩ := q
    have dr : (List.range n).drop i = i :: (List.range n).drop (i + 1) := range_drop lt
    rw [dr, List.any_cons] at hR
    refine wpAny_bind (wpAny_holding (wpAny_truthy_bool (wpAny_bind (wpAny_letGo ?_))))
    cases hb : b i with
    | true =>
      rw [hb, Bool.true_or] at hR
      exact wpAny_bind (wpAny_rule (wpAny_pure (hR (i + 1) s1 (by omega) q.j)))
    | false =>
      rw [hb, Bool.false_or] at hR
      exact wpAny_pure ⟨plainId_quiet F.plain_any_loop _, ih (i + 1) s1 (by omega) lt q hR⟩
theorem call_allG {E : Value → Shared → Prop} {s : Shared} {Q : Value → Shared → Prop} (G : GenW P w A.in1.in1 a g cv e x px it sc pos I n b J) (room : A.in1.depth < recursionLimit) (S : GS P w A.in1.in1 a g n b J 0 s)
    (hQ : ∀ j s', j ≤ n + 1 → J j s' → Q (.bool ((List.range n).all b)) s') : wpAny (model P w) A (call (.builtin "all") [.ref a]) Q E s := by
  refine call_function_tree F.kind_all F.plain_all F.entry_all (F.args_all1 _) ?_
  unfold Builtin.«all»
  refine wpAny_bind (m := oneArg "all" _) (wpAny_pure (wpAny_bind (wpAny_pyIter_gen (G.gen 0 s S.j).1 ?_)))
  exact wpAny_pure ⟨plainId_quiet F.plain_all_loop _, all_loop G room n 0 s rfl (Nat.zero_le _) S fun j s' hj q => by simpa using hQ j s' hj q⟩
theorem call_anyG {E : Value → Shared → Prop} {s : Shared} {Q : Value → Shared → Prop} (G : GenW P w A.in1.in1 a g cv e x px it sc pos I n b J) (room : A.in1.depth < recursionLimit) (S : GS P w A.in1.in1 a g n b J 0 s)
    (hQ : ∀ j s', j ≤ n + 1 → J j s' → Q (.bool ((List.range n).any b)) s') : wpAny (model P w) A (call (.builtin "any") [.ref a]) Q E s := by
  refine call_function_tree F.kind_any F.plain_any F.entry_any (F.args_any1 _) ?_
  unfold Builtin.«any»
  refine wpAny_bind (m := oneArg "any" _) (wpAny_pure (wpAny_bind (wpAny_pyIter_gen (G.gen 0 s S.j).1 ?_)))
  exact wpAny_pure ⟨plainId_quiet F.plain_any_loop _, any_loop G room n 0 s rfl (Nat.zero_le _) S fun j s' hj q => by simpa using hQ j s' hj q⟩
end
end My
/-! the context of a generator expression's element -/
namespace My
open PySem PySem.Spec PyProof.Rows L2
theorem ga_eq {A : Around} {e : Expr} {x : Str} {px : Pos} {it : Expr} {sc : Scope} {pos : Pos} {I : Addr} {cv : Env} : ga A e x px it sc pos I cv = A.deeper cv := by
  first
    | rfl
    | (obtain ⟨hd, d, fr, gs, u⟩ := A; simp [ga, GX, Around.over, Around.deeper, marksOver, frameCount, unitsOf, envsOf, guardsOf, pushEnvs, pushGuards, Code.envs, Code.env?, Code.isFrame, Code.guards, Code.isGuard, Code.weight, Code.frames, Code.isCreation, Code.isCaller, Code.cUnits])
/-- the element's context -/
abbrev gcx (X : Cx) (s : Shared) (H : Hp) (cv : Env) (fp : List Addr) : Cx :=
  { X with A := X.A.in1.in1.deeper cv, s_0 := s, H_0 := H, env := cv, outer := X.stack, stack := cv :: X.stack, ex := fp, fn := fun _ => false, pn := [], xe := fun _ _ => False }
theorem set_inv {X : Cx} {pins : List (Addr × Obj)} {σ : L2.St} {H : Hp} {s : Shared} {g : Nat} {y : GenState} (hy : y.bare = true) (I : Inv X pins σ H s) : Inv X pins σ H (s.setGen g y) := by
  have key : ∀ z ∈ s.gens.setIfInBounds g y, z.bare = true := fun z hz => by
    obtain ⟨i, hi, rfl⟩ := Array.mem_iff_getElem.mp hz
    rw [Array.getElem_setIfInBounds]
    split
    · exact hy
    · exact I.bare _ (Array.getElem_mem _)
    · simpa using hi
  exact ⟨I.ok, I.os, key, I.base, I.loc, I.cell, I.free, I.freeC, I.pin, I.hok, I.len⟩
section
variable {X : Cx} {pins : List (Addr × Obj)} {σ : L2.St} {H : Hp} {s : Shared}
theorem gen_start {scope : Scope} {own : List (Str × Nat)} {fp : List Addr} {code : Value} {h' : Heap} {gs : GenState} {ob : Obj} {tk : Nat} (I : Inv X pins σ H s) (ok : BlkOk X.N X.env.scope scope own) (hN : X.N.Nodup)
    (nc : ∀ y ∈ scope.names, y.2 ≠ .cell) (hfp : ∀ b ∈ fp, FpOk X pins H b ∧ b < s.heap.objs.size) (hgs : gs.bare = true) (hob : ∀ v, ob.data ≠ .cell v) (hof : ob.isFreed = false) {m : Str → Option Value}
    (hn : h'.Ns s.heap.objs.size m) (hs : Heap.SameBut s.heap.objs.size (s.heap.push { cls := .type "frame", data := .dict #[] }) h') :
    Inv (gcx X s H (genEnv scope (cloFrom X.env.cells scope.names []) s.heap.objs.size code builtinsNs X.env) fp) [(h'.objs.size, ob)] (wipe σ (own.map (·.2))) H
      { s with gens := s.gens.push gs, toks := tk, heap := h'.push ob } := by
  have fr : ∀ y ∈ scope.names, y.2 = .free → ∃ c, X.env.cells.lookup y.1 = some c := fun y hy z => I.ok.has _ ((ok.free y hy z).elim .inl .inr)
  generalize hcv : genEnv scope (cloFrom X.env.cells scope.names []) s.heap.objs.size code builtinsNs X.env = cv
  have hL : cv.locals = s.heap.objs.size := by rw [← hcv]; rfl
  have hcl : cv.cells = cloFrom X.env.cells scope.names [] := by rw [← hcv]; rfl
  have hsc : cv.scope = scope := by rw [← hcv]; rfl
  have sz : h'.objs.size = s.heap.objs.size + 1 := by rw [hs.1, Heap.size_push]
  have kp' : ∀ b o, s.heap.get? b = some o → h'.get? b = some o := fun b o e => (hs.2 b (Nat.ne_of_lt (Heap.lt_size e))).trans (Heap.get?_push_of_some _ e)
  have kp : ∀ b o, s.heap.get? b = some o → (h'.push ob).get? b = some o := fun b o e => Heap.get?_push_of_some _ (kp' b o e)
  have cm : ∀ {y c}, cv.cells.lookup y = some c → X.env.cells.lookup y = some c ∧ c < s.heap.objs.size := fun {y c} e => by
    rw [hcl] at e
    rcases cloFrom_mem (PySem.mem_of_lookup e) with hm | ⟨h1, rfl⟩
    · cases hm
    · obtain ⟨c, hc⟩ := fr _ h1 rfl
      rw [hc]
      obtain ⟨w, z⟩ := I.cell _ _ hc
      exact ⟨rfl, z.lt⟩
  have look : ∀ {y}, scope.names.lookup y = some .free → ∃ c, cv.cells.lookup y = some c ∧ X.env.cells.lookup y = some c := fun {y} hl => by
    obtain ⟨c, e⟩ := mem_lookup (cloFrom_has (cells := X.env.cells) (acc := []) (PySem.mem_of_lookup hl))
    rw [← hcl] at e
    exact ⟨c, e, (cm e).1⟩
  have kd : ∀ {y k}, scope.names.lookup y = some k → k ≠ .cell := fun {y k} e => nc (y, k) (PySem.mem_of_lookup e)
  have okB : (gcx X s H cv fp).Ok := by
    refine ⟨I.ok.mod, by show cv.scope.kind = _; rw [hsc]; exact ok.kind, by show cv.globals = _; rw [← hcv]; exact I.ok.glob, by show cv.builtins = _; rw [← hcv]; rfl, by show s.heap.objs.size ≤ cv.locals; rw [hL]; exact Nat.le_refl _,
      fun y z c e1 e2 => I.ok.inj y z c (cm e1).1 (cm e2).1, fun y hy => ?_, fun y c z => ?_, fun z => I.ok.hd z, ?_, .inr ⟨rfl, by show cv.frame = some cv.locals; rw [← hcv]; rfl⟩, fun b hb => ⟨?_, fun y c e z => ?_⟩,
      I.bs, Nat.le_trans I.ok.bsz I.sz, fun b o e hb => ?_, fun b hb z => ?_, I.stack, I.stkFree⟩
    · have hy : cv.scope.names.lookup y = some .cell ∨ cv.scope.names.lookup y = some .free := hy
      rw [hsc] at hy
      rcases hy with z | z
      · exact absurd rfl (kd z)
      · obtain ⟨c, e, _⟩ := look z
        exact ⟨c, e⟩
    · exact Bool.noConfusion (z : false = true)
    · show (X.A.in1.in1.deeper cv).frames = some (cv :: X.stack)
      have z := I.ok.frames
      show pushEnvs [cv] X.A.frames = _
      rw [z]
      rfl
    · show b ≠ cv.locals
      rw [hL]
      exact Nat.ne_of_lt (hfp b hb).2
    · exact (hfp b hb).1.2.2.2.2.1 y c (cm e).1 z
    · rcases (hfp b hb).1.2.2.2.1 with z | z
      · exact I.ok.noex b o e z
      · exact absurd (Nat.lt_of_lt_of_le (Heap.lt_size e) (Nat.le_trans I.ok.bsz z)) (Nat.lt_irrefl _)
    · rcases List.mem_cons.mp (I.stkSub b z) with z | z
      · exact (hfp b hb).1.2.1 z
      · exact (hfp b hb).1.2.2.1 z
  have sz2 : (h'.push ob).objs.size = s.heap.objs.size + 2 := by rw [Heap.size_push, sz]
  refine ⟨okB, rfl, I.bare.push hgs, Un.kept kp, ⟨m, ?_, fun i y av e1 e2 e3 => ?_⟩, fun y c e => ?_, ?_, fun y c e => I.freeC y c (cm e).1, fun p hp => ?_, I.hok.kept kp, by rw [wipe_length]; exact I.len⟩
  · show Heap.Ns _ cv.locals _
    rw [hL]
    exact hn.push _
  · obtain ⟨e2, hne⟩ := wipe_some e2
    have e3 : Vis cv.scope y := e3
    have no : ¬ (scope.names.lookup y = some .local) := fun hh => by
      rcases ok.own _ (PySem.mem_of_lookup hh) (.inl rfl) with z | z
      · obtain ⟨p, hp, hpy⟩ := List.mem_map.mp z
        have e4 := ok.ix p hp
        rw [show p.1 = y from hpy] at e4
        exact hne (List.mem_map.mpr ⟨p, hp, nodup_ix hN e4 e1⟩)
      · exact z (List.mem_of_getElem? e1)
    rw [hsc] at e3
    have free : scope.names.lookup y = some .free := by
      rcases e3 with z | z | z
      · exact absurd z no
      · exact absurd rfl (kd z)
      · exact z
    obtain ⟨m', hn', hl⟩ := I.loc
    have fk := ok.free _ (PySem.mem_of_lookup free) rfl
    obtain ⟨w, r, q⟩ := hl i y av e1 e2 (fk.elim (fun k => .inr (.inl k)) (fun k => .inr (.inr k)))
    obtain ⟨c, h1, h2⟩ := look free
    refine ⟨w, r, .inr ⟨.inr (by show cv.scope.names.lookup y = _; rw [hsc]; exact free), ?_⟩⟩
    rcases q with ⟨k, _⟩ | ⟨_, c', e', z⟩
    · have k : X.env.scope.names.lookup y = some .local := k
      rcases fk with k' | k' <;> rw [show X.env.scope.names.lookup y = _ from k'] at k <;> cases k
    · rw [h2] at e'
      cases e'
      exact ⟨c, h1, z.keeps kp⟩
  · obtain ⟨w, z⟩ := I.cell y c (cm e).1
    exact ⟨w, z.keeps kp⟩
  · show H cv.locals = none
    rw [hL]
    exact I.hok.fresh (Nat.le_refl _)
  · have hp : p ∈ ([] : List (Addr × Obj)) ++ [(h'.objs.size, ob)] := hp
    obtain rfl : p = (h'.objs.size, ob) := by simpa using hp
    refine ⟨Heap.get?_push_size _ hof, I.hok.fresh (by rw [sz]; exact Nat.le_succ _), ?_, fun z => ?_, hob⟩
    · show h'.objs.size ≠ cv.locals
      rw [hL, sz]
      exact Nat.succ_ne_self _
    · have z : h'.objs.size ∈ frs X.stack := z
      rcases List.mem_cons.mp (I.stkSub _ z) with y | y
      · have q := I.lt
        rw [← y, sz] at q
        exact absurd (Nat.lt_of_succ_lt q) (Nat.lt_irrefl _)
      · exact I.nofs (a := h'.objs.size) (by rw [sz]; exact Nat.le_succ _) y
end
end My
/-! all(..), any(..) of a generator expression over the layer; its element may call -/
namespace My
open PySem PySem.Spec PyProof.Rows L2
open GxR (TabB TabG Tabbed)
/-- the generator's own scope -/
structure GenC (sc : Scope) (x : Str) : Prop where
  kind : sc.kind = .function
  co : sc.isCoroutine = false
  cell : ∀ y ∈ sc.names, y.2 ≠ .cell
  dot : sc.names.lookup (".0" : Str) = some NameKind.local
abbrev gob (g tk : Nat) (q : Str) : Obj := { cls := .type "generator", data := .fields #[.int g 0, .str "<genexpr>" (tk + 1), .str (q ++ "<genexpr>") (tk + 1 + 1)] }
section
variable {X : Cx}
/-- the code object: the table has grown, or not -/
theorem code_G {c P : Addr} {pos : Pos} {qn : Str} {sc : Scope} {pins : List (Addr × Obj)} {σ : L2.St} {H : Hp} {s : Shared} {Q : Value → Shared → Prop} {E : Value → Shared → Prop}
    (TB : TabB X.base X.mg c P) (hcode : X.env.code = .ref c) (I : Inv X pins σ H s) (hT : TabG H P)
    (hQ : ∀ code h' tk H', Tabbed P H H' → Inv X pins σ H' { s with heap := h', toks := tk } → s.heap.objs.size ≤ h'.objs.size → (∀ b o, b ≠ P → s.heap.get? b = some o → h'.get? b = some o) → Q code { s with heap := h', toks := tk }) :
    wpAny (model X.prog X.w) X.A (genexprCode X.env pos qn sc) Q E s := by
  obtain ⟨ps, hP, ht⟩ := hT
  have hPs : s.heap.get? P = some { cls := .none, data := .fields ps } := I.hok P _ hP
  have cd : PySem.W.CodeHd s.heap c P := TB.code.keeps fun b u z => I.bk b u z
  cases hf : codeAmong pos ps.toList with
  | none =>
    refine wpAny_genexprCodeX hcode (cd.code hPs ht) (cd.tab hPs) hf fun c' h' tk hx hge hlt hco _ htab _ => ?_
    obtain ⟨o1, vs, f1, tf, fl, tg, inF, tx, tt, op, _, _, _, _, _, _, _, _, _, htr, _⟩ := hco
    have kp : ∀ b o, b ≠ P → s.heap.get? b = some o → h'.get? b = some o := fun b o nb z => hx b o nb z
    refine hQ _ h' tk _ ⟨⟨_, upd_same, htr⟩, fun b nb => upd_ne nb⟩ ?_ (Nat.le_trans hge (Nat.le_of_lt hlt)) kp
    exact GxR.inv_tab (g' := s.gens) (d' := s.drawn) I hP kp htab.2 I.bare
  | some cv =>
    refine wpAny_genexprCode_hit hcode (cd.code hPs ht) hf ?_
    exact hQ cv s.heap s.toks H ⟨⟨ps, hP, ht⟩, fun _ _ => rfl⟩ I (Nat.le_refl _) fun b o _ z => z
/-- what an all(..) wants: n items, the tests b -/
def tG (f : Nat → (Nat → Bool) → Bool) (P : Addr) (wi : TI) (g : TG) (te : TE) (vs : List Nat) : TE := fun σ H Q => wi σ H fun J H1 => TabG H1 P ∧ ∀ H2, Tabbed P H1 H2 →
  ∃ (n : Nat) (b : Nat → Bool) (W : Nat → Hp → Prop), W 0 H2 ∧
    (∀ i G, i < n → W i G → J.go i G ∧ ∀ y G', J.yld i G y G' → g y (wipe σ vs) G' fun τ G2 => wipe τ vs = wipe σ vs ∧ te τ G2 fun z G3 => z = .bl (b i) ∧ W (i + 1) G3) ∧
    (∀ G, W n G → J.stop n G) ∧ ∀ j G, j ≤ n → W j G → Q (.bl (f n b)) G
theorem gen_run {c P : Addr} {e it : Expr} {x : Str} {px gpos : Pos} {sc : Scope} {own : List (Str × Nat)} {wi : TI} {g : TG} {te : TE} {f : Nat → (Nat → Bool) → Bool}
    {pins : List (Addr × Obj)} {σ : L2.St} {H : Hp} {s : Shared} {Q : VK} {Q' : Value → Shared → Prop}
    (hc : X.calm = true) (hr : X.A.depth + 5 < recursionLimit) (hN : X.N.Nodup) (TB : TabB X.base X.mg c P) (hcode : X.env.code = .ref c) (ok : BlkOk X.N X.env.scope sc own) (S : GenC sc x)
    (hi : PI X (.Name x px) it wi) (hs : ∀ v, genFold it X.env v = pure v)
    (hg : ∀ (s : Shared) (H : Hp) (cl : List (Str × Addr)) (C : Addr) (code : Value) (fp : List Addr), PG (gcx X s H (genEnv sc cl C code builtinsNs X.env) fp) (.Name x px) g)
    (he : ∀ (s : Shared) (H : Hp) (cl : List (Str × Addr)) (C : Addr) (code : Value) (fp : List Addr), PE (gcx X s H (genEnv sc cl C code builtinsNs X.env) fp) e te)
    (I : Inv X pins σ H s) (h : tG f P wi g te (own.map (·.2)) σ H Q)
    (hQ : ∀ (a gn : Nat) (cv : Env) (itr : Addr) (n : Nat) (b : Nat → Bool) (J : Nat → Shared → Prop) (s5 : Shared), GenW X.prog X.w X.A.in1.in1 a gn cv e x px it sc gpos itr n b J →
      GS X.prog X.w X.A.in1.in1 a gn n b J 0 s5 → (∀ j s', j ≤ n + 1 → J j s' → EP X pins σ Q (.bool (f n b)) s') → Q' (.ref a) s5) :
    wpAny (model X.prog X.w) X.A (eval (GX e x px it sc gpos) X.env) Q' X.xe s := by
  have fr : ∀ y ∈ sc.names, y.2 = .free → ∃ c, X.env.cells.lookup y.1 = some c := fun y hy z => I.ok.has _ ((ok.free y hy z).elim .inl .inr)
  refine wpAny_GeneratorExp_make S.co (closure_ok fr) S.cell S.dot S.kind (by omega) (thn (hi.run pins s σ H _ I h) fun xv s1 hx => thn hx fun itv s2 h2 => ?_) hs
  obtain ⟨itr, fp, tn, J, H2, rfl, I2, T, st2, f2, hT, q⟩ := h2
  refine ⟨I2.nolimit, code_G TB hcode I2 hT fun code h3 tk3 H3 tb I3 ge kp => ?_⟩
  obtain ⟨bm, ob, e1, e2, e3, e4, e5, e6, e7, e8⟩ := TB.bm
  generalize hs3 : ({ s2 with heap := h3, toks := tk3 } : Shared) = s3 at I3 ⊢
  have eh : s3.heap = h3 := by rw [← hs3]
  refine wpAny_builtinsFor (m := X.mg) (by rw [I3.ok.glob]; exact I3.mod.glob.keeps I3.bk) e1 e2 (I3.bk _ _ e5) e6 e7 e8 fun h' hn sb => ?_
  obtain ⟨n, b, W, w0, item, stop, fin⟩ := q H3 tb
  have nP : ∀ c ∈ fp, c ≠ P := fun c hc z => by
    obtain ⟨ps, hp, _⟩ := hT
    have y := (f2 c hc).1
    rw [z, hp] at y
    cases y
  have f3 : ∀ c ∈ fp, FpOk X pins H3 c ∧ c < s3.heap.objs.size := fun c hc => by
    refine ⟨⟨(tb.2 c (nP c hc)).trans (f2 c hc).1, (f2 c hc).2⟩, ?_⟩
    rw [eh]
    exact Nat.lt_of_lt_of_le ((T.obj _ _ st2 c hc).elim fun o z => Heap.lt_size z.1) ge
  have st3 : tn 0 s3.heap := T.keep _ _ _ st2 fun c hc o z => by rw [eh]; exact kp c o (nP c hc) z
  have I5 := gen_start (gs := .fresh (.compStart (GX e x px it sc gpos) 0 (.ref itr) .none (genEnv sc (cloFrom X.env.cells sc.names []) s3.heap.objs.size code builtinsNs X.env))) (ob := gob s3.gens.size s3.toks X.env.qual)
    (tk := s3.toks + 1 + 1 + 1) (code := code) I3 ok hN S.cell f3 rfl (fun v z => by cases z) rfl hn sb
  have sz : h'.objs.size = s3.heap.objs.size + 1 := by rw [sb.1, Heap.size_push]
  have kp5 : ∀ c o, s3.heap.get? c = some o → (h'.push (gob s3.gens.size s3.toks X.env.qual)).get? c = some o := fun c o z =>
    Heap.get?_push_of_some _ ((sb.2 c (Nat.ne_of_lt (Heap.lt_size z))).trans (Heap.get?_push_of_some _ z))
  generalize hs5 : ({ s3 with gens := s3.gens.push (.fresh (.compStart (GX e x px it sc gpos) 0 (.ref itr) .none (genEnv sc (cloFrom X.env.cells sc.names []) s3.heap.objs.size code builtinsNs X.env))), toks := s3.toks + 1 + 1 + 1, heap := h'.push (gob s3.gens.size s3.toks X.env.qual) } : Shared) = s5 at I5 ⊢
  have st5 : tn 0 s5.heap := T.keep _ _ _ st3 fun c _ o z => by rw [← hs5]; exact kp5 c o z
  have n3 : ∀ c ∈ fp, H3 c = none := fun c hc => (f3 c hc).1.1
  have g5 : s5.gens[s3.gens.size]? = some (.fresh (.compStart (GX e x px it sc gpos) 0 (.ref itr) .none (genEnv sc (cloFrom X.env.cells sc.names []) s3.heap.objs.size code builtinsNs X.env))) := by
    rw [← hs5]
    exact Array.getElem?_push_size ..
  have G0 := hg s3 H3 (cloFrom X.env.cells sc.names []) s3.heap.objs.size code fp
  have E0' := he s3 H3 (cloFrom X.env.cells sc.names []) s3.heap.objs.size code fp
  have hco : (genEnv sc (cloFrom X.env.cells sc.names []) s3.heap.objs.size code builtinsNs X.env).scope.isCoroutine = false := S.co
  generalize hcv : genEnv sc (cloFrom X.env.cells sc.names []) s3.heap.objs.size code builtinsNs X.env = cv at I5 G0 E0' g5 hco
  -- what the element's context owes of the iterator's own objects
  have owes : ∀ {τ : L2.St} {G : Hp} {t : Shared} {pn : List (Addr × Obj)}, Inv (gcx X s3 H3 cv fp) pn τ G t → (∀ c ∈ fp, G c = none) → (∀ p ∈ pn, p.1 ∉ fp) → ∀ c ∈ fp, FpOk (gcx X s3 H3 cv fp) pn G c := fun {τ G t pn} J hn hp c hc =>
    ⟨hn c hc, (J.ok.exf c hc).1, J.ok.exfs c hc, .inl hc, fun y d z => (J.ok.exf c hc).2 y d z, fun p hm z => hp p (show p ∈ pn from hm) (z ▸ hc)⟩
  have pf : ∀ p ∈ [(h'.objs.size, gob s3.gens.size s3.toks X.env.qual)], p.1 ∉ fp := fun p hp hm => by
    obtain rfl : p = _ := List.mem_singleton.mp hp
    have z := (f3 _ hm).2
    have z2 : (h'.objs.size : Nat) < s3.heap.objs.size := z
    omega
  obtain ⟨Jp, eJ⟩ : ∃ Jp : Nat → Shared → Prop, Jp = (fun i t => ∃ G, Inv (gcx X s3 H3 cv fp) [(h'.objs.size, gob s3.gens.size s3.toks X.env.qual)] (wipe σ (own.map (·.2))) G t ∧ (i ≤ n → tn i t.heap) ∧ (∀ c ∈ fp, G c = none) ∧ W (min i n) G) := ⟨_, rfl⟩
  have GW : GenW X.prog X.w X.A.in1.in1 h'.objs.size s3.gens.size cv e x px it sc gpos itr n b Jp := by
    rw [eJ]
    refine ⟨hco, I3.ok.hd hc, fun i t z => ?_, fun i t y hy z => ?_, fun i t h'' z k => ?_, fun t A' Q E z y => ?_, fun i t lt z => ?_, fun t z => ?_⟩
    · obtain ⟨G, IG, _⟩ := z
      exact ⟨⟨_, _, _, (IG.pin _ (List.mem_append_right _ (List.mem_singleton.mpr rfl))).1, rfl, rfl, rfl⟩, IG.nolimit⟩
    · obtain ⟨G, IG, r⟩ := z
      exact ⟨G, set_inv hy IG, r⟩
    · obtain ⟨G, IG, st, r⟩ := z
      exact ⟨G, IG.kept (t' := t.toks) k, fun le => T.keep _ _ _ (st le) fun c _ o y => k c o y, r⟩
    · obtain ⟨G, IG, st, r⟩ := z
      exact T.self A' 0 t Q E (st (Nat.zero_le _)) y
    · obtain ⟨G, IG, st, nn, wj⟩ := z
      rw [Nat.min_eq_left (Nat.le_of_lt lt)] at wj
      obtain ⟨go, yl⟩ := item i G lt wj
      rw [ga_eq]
      refine thnF (T.item (gcx X s3 H3 cv fp) rfl rfl rfl hc i _ t _ G (fun _ _ => False) IG (owes IG nn pf) (st (Nat.le_of_lt lt)) go) fun r t1 ⟨u, hu, h1⟩ => ⟨u, hu, ?_⟩
      refine thnF h1 fun _ t2 ⟨y, G2, I2', r2, y2, st2', n2⟩ => ?_
      refine thnF (G0.run _ t2 _ G2 y u _ (I2'.pinned (owes I2' n2 pf) (T.obj _ _ st2')) r2 (yl y G2 y2)) fun _ t3 ⟨τ, G3, I3', wp, q3⟩ => ?_
      refine thnF (E0'.run _ t3 τ G3 _ I3' q3) fun z t4 ⟨zv, G4, I4, r4, hz, w4⟩ => ?_
      subst hz
      cases (show z = Value.bool (b i) from r4)
      have pin : ∀ c ∈ fp, ∀ o, t2.heap.get? c = some o → t4.heap.get? c = some o ∧ G4 c = none := fun c hc o y =>
        let v := I4.pin (c, o) (List.mem_append_right _ (List.mem_append_right _ (mem_pinsAt hc y)))
        ⟨v.1, v.2.1⟩
      refine ⟨rfl, G4, I4.unpinned.weak (by rw [← wp, wipe_length]) (fun a v y => by rw [← wp] at y; exact (wipe_some y).1), fun _ => T.keep _ _ _ st2' fun c hc o y => (pin c hc o y).1, fun c hc => ?_, by rw [Nat.min_eq_left (show i + 1 ≤ n from lt)]; exact w4⟩
      obtain ⟨o, y, _⟩ := T.obj _ _ st2' c hc
      exact (pin c hc o y).2
    · obtain ⟨G, IG, st, nn, wj⟩ := z
      rw [Nat.min_self] at wj
      rw [ga_eq]
      refine thnF (T.done (gcx X s3 H3 cv fp) rfl rfl rfl hc n _ t _ G (fun _ _ => False) IG (owes IG nn pf) (st (Nat.le_refl _)) (stop G wj)) fun r t1 ⟨hr, I1⟩ => ?_
      exact ⟨hr, G, I1, fun le => absurd le (Nat.not_succ_le_self n), nn, by rw [Nat.min_eq_right (Nat.le_succ n)]; exact wj⟩
  refine hQ h'.objs.size s3.gens.size cv itr n b Jp s5 GW (g_fresh GW (by rw [eJ]; exact ⟨H3, I5, fun _ => st5, n3, by rw [Nat.zero_min]; exact w0⟩) g5) ?_
  · rw [eJ]
    rintro j t - ⟨G, IG, _, nn, wj⟩
    refine ⟨.bl (f n b), G, I3.call' (ch := fp) IG.os IG.base IG.hok IG.bare fun c hc => ?_, rfl, fin _ G (Nat.min_le_right _ _) wj⟩
    have z := (f3 c hc).1
    exact ⟨z.2.2.2.1, z.2.1, z.2.2.2.2.1, z.2.2.2.2.2⟩
theorem pe_allG {c P : Addr} {e it : Expr} {x : Str} {px p pos gpos : Pos} {sc : Scope} {own : List (Str × Nat)} {wi : TI} {g : TG} {te : TE} {k : Nat} (hc : X.calm = true) (hr : Room k X.A) (hN : X.N.Nodup)
    (hgl : Gl X "all") (hm : X.mg "all" = none) (hb : bootBuiltins "all" = some (.builtin "all")) (TB : TabB X.base X.mg c P) (hcode : X.env.code = .ref c) (ok : BlkOk X.N X.env.scope sc own) (S : GenC sc x)
    (hi : PI X (.Name x px) it wi) (hs : ∀ v, genFold it X.env v = pure v)
    (hg : ∀ (s : Shared) (H : Hp) (cl : List (Str × Addr)) (C : Addr) (code : Value) (fp : List Addr), PG (gcx X s H (genEnv sc cl C code builtinsNs X.env) fp) (.Name x px) g)
    (he : ∀ (s : Shared) (H : Hp) (cl : List (Str × Addr)) (C : Addr) (code : Value) (fp : List Addr), PE (gcx X s H (genEnv sc cl C code builtinsNs X.env) fp) e te)
    (hst : starEach [GX e x px it sc gpos] X.env = (false, eval (GX e x px it sc gpos) X.env) :: starEach [] X.env := by rfl) :
    PE X (.Call (.Name "all" p) [GX e x px it sc gpos] [] pos) (tG (fun n b => (List.range n).all b) P wi g te (own.map (·.2))) := by
  refine ⟨fun pins s σ H Q I h => wpAny_Call_Name_kw (ld_blt I hgl hm hb (PyProof.Rows.callWith_builtin1 ?_ hst (by rfl)))⟩
  have dp := hr.dp
  rw [hst]
  show wpAny _ _ (spliced ((false, eval (GX e x px it sc gpos) X.env) :: backTo pos (starEach [] X.env))) _ _ s
  refine Calls.spliced_cons (gen_run hc (by omega) hN TB hcode ok S hi hs hg he I h fun a gn cv itr n b J s5 GW GS0 fin => Calls.spliced_nil ?_)
  exact call_allG GW (by show X.A.depth < recursionLimit; omega) GS0 fin
theorem pe_anyG {c P : Addr} {e it : Expr} {x : Str} {px p pos gpos : Pos} {sc : Scope} {own : List (Str × Nat)} {wi : TI} {g : TG} {te : TE} {k : Nat} (hc : X.calm = true) (hr : Room k X.A) (hN : X.N.Nodup)
    (hgl : Gl X "any") (hm : X.mg "any" = none) (TB : TabB X.base X.mg c P) (hcode : X.env.code = .ref c) (ok : BlkOk X.N X.env.scope sc own) (S : GenC sc x)
    (hi : PI X (.Name x px) it wi) (hs : ∀ v, genFold it X.env v = pure v)
    (hg : ∀ (s : Shared) (H : Hp) (cl : List (Str × Addr)) (C : Addr) (code : Value) (fp : List Addr), PG (gcx X s H (genEnv sc cl C code builtinsNs X.env) fp) (.Name x px) g)
    (he : ∀ (s : Shared) (H : Hp) (cl : List (Str × Addr)) (C : Addr) (code : Value) (fp : List Addr), PE (gcx X s H (genEnv sc cl C code builtinsNs X.env) fp) e te)
    (hst : starEach [GX e x px it sc gpos] X.env = (false, eval (GX e x px it sc gpos) X.env) :: starEach [] X.env := by rfl) :
    PE X (.Call (.Name "any" p) [GX e x px it sc gpos] [] pos) (tG (fun n b => (List.range n).any b) P wi g te (own.map (·.2))) := by
  refine ⟨fun pins s σ H Q I h => wpAny_Call_Name_kw (ld_blt I hgl hm boot_any (PyProof.Rows.callWith_builtin1 ?_ hst (by rfl)))⟩
  have dp := hr.dp
  rw [hst]
  show wpAny _ _ (spliced ((false, eval (GX e x px it sc gpos) X.env) :: backTo pos (starEach [] X.env))) _ _ s
  refine Calls.spliced_cons (gen_run hc (by omega) hN TB hcode ok S hi hs hg he I h fun a gn cv itr n b J s5 GW GS0 fin => Calls.spliced_nil ?_)
  exact call_anyG GW (by show X.A.depth < recursionLimit; omega) GS0 fin
/-- the room that the element has -/
theorem room_G {k : Nat} {A : Around} {cv : Env} (r : Room (k + 1) A) : Room k (A.in1.in1.deeper cv) :=
  ⟨r.hd, by have := r.dp; show A.depth + 1 + 3 * k + 5 < _; omega, by have := r.un; show A.units + 1 + 1 + 3 + 16 * k + 200 < _; omega⟩
end
end My
/-! a def whose code object is known by its address; heaps in which tables of code objects grow -/
namespace My
open PySem PySem.Spec PyProof.Rows L2
open GxR (TabB TabG Tabbed)
section
variable {P : Program} {w : World} {K : PySem.W.Frag} {mg : Str → Option Value} {base : Heap}
theorem okC {CX : CXT} {x qual : Str} {st : Stmt} {f : Addr} {fd : FuncData} {N ps : List Str} {k : Nat} {sp : Sp} (F : Fun K x qual st f fd) (S : FnScope N ps (defScope st))
    (arity : ∀ vs H Q E, sp vs H Q E → vs.length = ps.length)
    (body : ∀ (cdv : Value) (A : Around) (outer : List Env) (s : Shared) (H : Hp) (vs : List V) (Q : VK) (E : XK), cdv = fd.code → Room k (A.deeper (envOfC qual (defScope st) s.heap.objs.size f cdv)) → sp vs H Q E →
      ∃ t, PSs (cxOf CX P w K mg base N qual (defScope st) f cdv A outer s H E).nox (defBody st) t ∧ t { nx := fun _ H' => Q .non H', rt := Q } (start N vs) H) :
    FnOk P w K mg base CX (k + 1) f fd ps sp := by
  obtain ⟨oc, od, kV, doc, pm, an, cdv, ct, osl, rfl, lk, hcd⟩ := F.ex
  refine ⟨arity, fun A outer s H args us vs Q E room e0 bnd rv want => ?_⟩
  have al := arity _ _ _ _ want
  have stay : ∀ b o, base.get? b = some o → s.heap.get? b = some o := fun b o e => (e0.bs b o e).1
  have inK : K.In s.heap := e0.mod.kin.keeps stay
  have nolim : s.heap.NoLimit := e0.mod.nolimit.keeps stay
  have kinds : ∀ y ∈ ps.zip us, (defScope st).names.lookup y.1 = some .local ∨
      ((defScope st).names.lookup y.1 = some .cell ∧ ((cellsFrom (s.heap.objs.size + 1) (defScope st).names []).lookup y.1).isSome = true) := by
    rintro ⟨n, v⟩ hy
    rcases S.par n (List.of_mem_zip hy).1 with q | q
    · exact .inl q
    · exact .inr ⟨q, PySem.W.cellsFrom_some _ _ _ (.inl q)⟩
  refine codeAny_call_function room.depth (inK _ _ lk) rfl S.co S.gen rfl (PySem.W.codeRec_of inK hcd) (bnd _ _ _ _ ?_)
  refine wpAny_newFunctionEnv_cells S.kind kinds fun env he s1 x => ?_
  subst he
  refine ⟨nolim.keeps x.toInCall.keep, codeAny_func ?_⟩
  obtain ⟨t, ht0, hq⟩ := body cdv A outer s H vs Q E rfl (room.deeper _) want
  have I := inv_start (E := E) (CX := CX) S room.hd e0 al rv x
  refine wpAny_mono (ht0.nox.run [] s1 (start N vs) H _ I hq) (fun fl s' hs => ?_) fun e s' hs => hs
  cases fl with
  | ret u =>
    obtain ⟨v, σ', H', J, rv', q⟩ := hs
    exact ⟨v, H', J.os, J.bare, J.base, J.hok, rv', q⟩
  | next =>
    obtain ⟨σ', H', J, q⟩ := hs
    exact ⟨V.non, H', J.os, J.bare, J.base, J.hok, rfl, q⟩
  | brk => exact hs.elim fun _ z => z.elim fun _ z => z.2.elim
  | cont => exact hs.elim fun _ z => z.elim fun _ z => z.2.elim
end
/-- all these tables stand in H -/
def Tbs (ps : List Addr) (H : Hp) : Prop := ∀ p ∈ ps, TabG H p
/-- H' is later than H: the tables may have grown, what else was tracked stands -/
structure Gr (ps : List Addr) (H H' : Hp) : Prop where
  tb : Tbs ps H'
  keep : ∀ c o, c ∉ ps → H c = some o → H' c = some o
theorem Gr.refl {ps : List Addr} {H : Hp} (t : Tbs ps H) : Gr ps H H := ⟨t, fun _ _ _ h => h⟩
theorem Gr.trans {ps : List Addr} {H H1 H2 : Hp} (a : Gr ps H H1) (b : Gr ps H1 H2) : Gr ps H H2 := ⟨b.tb, fun c o n h => b.keep c o n (a.keep c o n h)⟩
theorem Gr.tabbed {ps : List Addr} {H H1 H2 : Hp} {p : Addr} (a : Gr ps H H1) (hp : p ∈ ps) (t : Tabbed p H1 H2) : Gr ps H H2 := by
  refine ⟨fun q hq => ?_, fun c o n h => ?_⟩
  · by_cases e : q = p
    · rw [e]
      exact t.1
    · obtain ⟨xs, h, r⟩ := a.tb q hq
      exact ⟨xs, (t.2 q e).trans h, r⟩
  · rw [t.2 c fun e => n (e ▸ hp)]
    exact a.keep c o n h
theorem Gr.new {ps : List Addr} {H H1 : Hp} {q : Addr} {o : HO} (a : Gr ps H H1) (h : H1 q = none) : Gr ps H (upd H1 q o) := by
  refine ⟨fun p hp => ?_, fun c u n e => ?_⟩
  · obtain ⟨xs, y, r⟩ := a.tb p hp
    exact ⟨xs, by rw [upd_ne (ne_of_none y h)]; exact y, r⟩
  · have z := a.keep c u n e
    rw [upd_ne (ne_of_none z h)]
    exact z
end My
namespace My
open PySem PySem.Spec PyProof.Rows L2
open GxR (TabB TabG Tabbed)
/-- all that is no table stands -/
def Std (H H' : Hp) : Prop := ∀ c o, H c = some o → (∀ ps, o ≠ .tbl ps) → H' c = some o
theorem Gr.std {ps : List Addr} {H H' : Hp} (t : Tbs ps H) (g : Gr ps H H') : Std H H' := fun c o h n => g.keep c o (fun m => by
  obtain ⟨xs, y, _⟩ := t c m
  rw [y] at h
  exact n xs (Option.some.inj h).symm) h
section
variable {K : PySem.W.Frag} {H H' : Hp}
theorem sqL_std (s : Std H H') {a : Addr} {xs : List V} (h : SqL K H a xs) : SqL K H' a xs := by
  rcases h with (h | ⟨o, h⟩) | h
  · exact .inl (.inl (s _ _ h fun ps z => by cases z))
  · exact .inl (.inr ⟨o, s _ _ h fun ps z => by cases z⟩)
  · exact .inr h
theorem sqT_std (s : Std H H') {a : Addr} {xs : List V} (h : SqT K H a xs) : SqT K H' a xs := by
  rcases h with (h | ⟨o, h⟩) | h
  · exact .inl (.inl (s _ _ h fun ps z => by cases z))
  · exact .inl (.inr ⟨o, s _ _ h fun ps z => by cases z⟩)
  · exact .inr h
mutual
theorem dp_std (s : Std H H') : ∀ (d : PyData) (v : V), Dp K H v d → Dp K H' v d
  | .none, _, h => by
    cases h
    exact .non
  | .bool _, _, h => by
    cases h
    exact .bl _
  | .int _, _, h => by
    cases h
    exact .int _
  | .str _, _, h => by
    cases h
    exact .str _
  | .list ds, _, h => by
    cases h with
    | lst q a => exact .lst (sqL_std s q) (dps_std s ds _ a)
  | .tuple ds, _, h => by
    cases h with
    | tup q a => exact .tup (sqT_std s q) (dps_std s ds _ a)
  | .dict _, _, h => by cases h
theorem dps_std (s : Std H H') : ∀ (ds : List PyData) (vs : List V), DpAll K H vs ds → DpAll K H' vs ds
  | [], _, h => by
    cases h
    exact .nil
  | d :: ds, _, h => by
    cases h with
    | cons a r => exact .cons (dp_std s d _ a) (dps_std s ds _ r)
end
theorem dps_at : ∀ {vs : List V} {ds : List PyData} {i : Nat} {v : V}, DpAll K H vs ds → vs[i]? = some v → ∃ d, ds[i]? = some d ∧ Dp K H v d
  | _, _, _, _, .nil, e => by simp at e
  | _, _, 0, _, .cons h r, e => ⟨_, rfl, by cases e; exact h⟩
  | _, _, i + 1, _, .cons h r, e => dps_at (i := i) r e
theorem dps_len : ∀ {vs : List V} {ds : List PyData}, DpAll K H vs ds → vs.length = ds.length
  | _, _, .nil => rfl
  | _, _, .cons _ r => congrArg (· + 1) (dps_len r)
end
/-! ### len of a set of texts -/
def rLenT (w : World) : List V → Hp → VK → Prop := fun vs H Q => ∃ (a : Addr) (xs : List Str), vs = [.ref a] ∧ H a = some (SetTx w a xs) ∧ Q (.int xs.length) H
theorem lenT {X : Cx} : CallR X (.builtin "len") (rLenT X.w) := by
  intro pins s σ H vs us Q I r h
  obtain ⟨a, xs, rfl, ha, q⟩ := h
  obtain ⟨u, rfl, ru⟩ := vals1 r
  cases (show u = Value.ref a from ru)
  obtain ⟨R, _⟩ := I.hok a _ ha
  obtain ⟨nd, o, es, ep, t, ho, hex, hd, g, pm, hb, hf, _⟩ := R
  have sz : es.size = xs.length := by
    have z := pm.length_eq
    rwa [List.length_map, Array.length_toList] at z
  have line : scanBound = 4096 := rfl
  exact call_len_set ho hex hd hf (by omega) ⟨.int xs.length, H, I.tok _, ⟨_, by rw [sz]⟩, q⟩
/-! ### texts unlike -/
theorem foldT_iff : ∀ (xs acc : List Str), acc.Nodup → ((xs.foldl withT acc).length = acc.length + xs.length ↔ (acc ++ xs).Nodup)
  | [], acc, h => by simp [h]
  | x :: r, acc, h => by
    rw [List.foldl_cons, List.length_cons]
    by_cases m : x ∈ acc
    · have e : withT acc x = acc := if_pos m
      rw [e]
      have l := foldT_len r acc
      constructor
      · intro z
        omega
      · intro z
        have d := (List.nodup_append.mp z).2.2
        exact absurd rfl (d x m x List.mem_cons_self)
    · have e : withT acc x = acc ++ [x] := if_neg m
      have n := withT_nd (x := x) h
      rw [e] at n ⊢
      have ih := foldT_iff r (acc ++ [x]) n
      rw [List.length_append, List.append_assoc] at ih
      show _ ↔ (acc ++ ([x] ++ r)).Nodup
      rw [← ih]
      show _ = acc.length + (r.length + 1) ↔ _ = acc.length + 1 + r.length
      omega
theorem distT_iff (xs : List Str) : (distT xs).length = xs.length ↔ xs.Nodup := by
  have z := foldT_iff xs [] List.nodup_nil
  unfold distT
  simpa using z
end My
/-! what a law's alike asks of data: kinds, and so deep -/
namespace My
open PySem PySem.Spec PyProof.Rows L2
/-- data without None and dicts, so deep, none longer than a thousand -/
def Alk : Nat → PyData → Prop
  | 0, _ => False
  | n + 1, d => match d with
    | .bool _ => True
    | .int _ => True
    | .str _ => True
    | .list ds => ds.length ≤ 1000 ∧ ∀ e ∈ ds, Alk n e
    | .tuple ds => ds.length ≤ 1000 ∧ ∀ e ∈ ds, Alk n e
    | _ => False
theorem Alk.list {n : Nat} {ds : List PyData} (l : ds.length ≤ 1000) (h : ∀ e ∈ ds, Alk n e) : Alk (n + 1) (.list ds) := ⟨l, h⟩
theorem Alk.tup {n : Nat} {ds : List PyData} (l : ds.length ≤ 1000) (h : ∀ e ∈ ds, Alk n e) : Alk (n + 1) (.tuple ds) := ⟨l, h⟩
theorem kitLT {K : PySem.W.Frag} {t : String} {a b : Bool} (h1 : kitB t "list" = some a) (h2 : kitB t "tuple" = some b) :
    PySem.W.kitAny K (.type t) [.type "list", .type "tuple"] = some (a || b) := by
  refine kitAny_cons (kit_ty h1) (fun e => ?_) (fun e => by rw [e]; rfl)
  rw [e, Bool.false_or]
  refine kitAny_cons (kit_ty h2) (fun e => ?_) (fun e => e)
  rw [e]
  exact kitAny_nil
section
variable {X : Cx} {K : PySem.W.Frag}
theorem ix_ltK (e : X.K = K) : IxR X (fun x y H Q => rIxL K x y H Q ∨ rIxT K x y H Q) := e ▸ (ix_list.or ix_tup)
end
theorem same_std {H H' : Hp} (s : Same H H') : Std H H' := fun c o h _ => s c o h
theorem dp_same {K : PySem.W.Frag} {H H' : Hp} (s : Same H H') {d : PyData} {v : V} (h : Dp K H v d) : Dp K H' v d := dp_std (same_std s) d v h
theorem dps_same {K : PySem.W.Frag} {H H' : Hp} (s : Same H H') {ds : List PyData} {vs : List V} (h : DpAll K H vs ds) : DpAll K H' vs ds := dps_std (same_std s) ds vs h
theorem dps_get {K : PySem.W.Frag} {H : Hp} {vs : List V} {ds : List PyData} {i : Nat} {d : PyData} (h : DpAll K H vs ds) (e : ds[i]? = some d) : ∃ v, vs[i]? = some v ∧ Dp K H v d := by
  have l := dps_len h
  have lt : i < vs.length := by
    rw [l]
    exact (List.getElem?_eq_some_iff.mp e).1
  obtain ⟨d', e', q⟩ := dps_at h (List.getElem?_eq_getElem lt)
  rw [e] at e'
  cases e'
  exact ⟨_, List.getElem?_eq_getElem lt, q⟩
theorem free_of2 {H H' : Hp} {q : Addr} (s : Same H H') (h : H' q = none) : H q = none := by
  cases e : H q with
  | none => rfl
  | some o =>
    have z := s _ _ e
    rw [h] at z
    cases z
def spAl (K : PySem.W.Frag) : Nat → Sp
  | 0 => fun _ _ _ _ => False
  | n + 1 => fun vs H Q _ => ∃ x y d, vs = [x, y] ∧ Dp K H x d ∧ Dp K H y d ∧ Alk (n + 1) d ∧ ∀ H', Same H H' → Q (.bl true) H'
def tyD : PyData → String
  | .none => "NoneType"
  | .bool _ => "bool"
  | .int _ => "int"
  | .str _ => "str"
  | .list _ => "list"
  | .tuple _ => "tuple"
  | .dict _ => "dict"
theorem dp_ty {K : PySem.W.Frag} {H : Hp} {x : V} {d : PyData} (h : Dp K H x d) : TyX K H x (.type (tyD d)) := by
  cases h with
  | non => exact .base .non
  | bl b => exact .base (.bl _)
  | int i => exact .base (.int _)
  | str z => exact .base (.str _)
  | lst q _ =>
    rcases q with (q | ⟨o, q⟩) | ⟨o, its, n, e, c, _⟩
    · exact .base (.lst q)
    · exact .base (.frz q)
    · exact .kList e c
  | tup q _ =>
    rcases q with (q | ⟨o, q⟩) | ⟨o, its, n, e, c, _⟩
    · exact .base (.tup q)
    · exact .fTuple q
    · exact .kTuple e c
theorem kitT : ∀ t ∈ ["NoneType", "bool", "int", "str", "list", "tuple", "dict"], ∀ T ∈ ["int", "bool", "str", "list", "tuple"],
    kitB t T = some (decide (t = T) || (decide (T = "int") && decide (t = "bool"))) := by decide +kernel
theorem tyD_mem (d : PyData) : tyD d ∈ ["NoneType", "bool", "int", "str", "list", "tuple", "dict"] := by cases d <;> simp [tyD]
theorem kitD (K : PySem.W.Frag) (d : PyData) (T : String) (h : T ∈ ["int", "bool", "str", "list", "tuple"]) :
    PySem.W.kitOne K (.type (tyD d)) (.type T) = some (decide (tyD d = T) || (decide (T = "int") && decide (tyD d = "bool"))) := kit_ty (kitT _ (tyD_mem d) T h)
end My
/-! xs[::-1]; xs + ys of lists of any origin -/
namespace My
open PySem PySem.Spec PyProof.Rows L2
def tRev (K : PySem.W.Frag) (te : TE) (ts : TO) : TE := fun σ H Q => te σ H fun x H1 => ts σ H1 fun st H2 => st = some (-1) ∧ ∃ a xs, x = .ref a ∧ SqL K H2 a xs ∧
  ∀ l, H2 l = none → Q (.ref l) (upd H2 l (.lst xs.reverse))
section
variable {X : Cx} {e se : Expr} {te : TE} {ts : TO} {pos p2 : Pos}
theorem pe_rev (he : PE X e te) (hst : PO X (some se) ts) : PE X (.Subscript e (.Slice none none (some se) p2) pos) (tRev X.K te ts) := by
  refine ⟨fun pins s σ H Q I h => ?_⟩
  refine Subscript_ (thn (he.run pins s σ H _ I h) fun v s1 z => ?_)
  obtain ⟨x, H1, I1, r1, q1⟩ := z
  refine wpAny_Slice ?_
  rw [evalPart_none]
  refine wpAny_pure (wpAny_pure ?_)
  refine thn (hst.run pins s1 σ H1 _ I1 q1) fun vst s2 z => ?_
  obtain ⟨o, H2, I2, part, rfl, a, xs, rfl, hx, q⟩ := z
  cases r1
  let nu : Obj := { cls := .type "slice", data := .fields #[.none, .none, vst] }
  have I3 : Inv X pins σ H2 { s2 with heap := s2.heap.push nu } := I2.kept (t' := s2.toks) fun b ob y => Heap.get?_push_of_some _ y
  obtain ⟨its, r, ht, hz⟩ := I3.list hx
  have hlen := r.length
  refine tail_any (ops := [.ref a, .ref s2.heap.objs.size]) ht.isList.typeIs slot_list_getitem.lookup ?_ (by with_unfolding_all rfl)
  refine wpAny_getItem_list_slice ht.isList (Heap.IsSliceOf.new ..) .none .none part (by decide) ?_ (by rw [List.size_toArray]; omega)
  rw [PySem.W.krv_pick]
  have fr : H2 (s2.heap.push nu).objs.size = none := I3.hok.fresh (Nat.le_refl _)
  refine ⟨.ref (s2.heap.push nu).objs.size, _, I3.laid (t' := s2.toks) (o := .lst xs.reverse) (fun b ob y => Heap.get?_push_of_some _ y) (Nat.le_refl _) ?_, rfl, q _ fr⟩
  exact ⟨by rw [List.length_reverse]; exact hz, _, 0, r.reverse, Heap.get?_push_size _ rfl⟩
/-- a list and another one, whatever they come from -/
def rCatL (K : PySem.W.Frag) : R2 := fun x y H Q => ∃ l b xs zs, x = .ref l ∧ y = .ref b ∧ SqL K H l xs ∧ SqL K H b zs ∧ xs.length + zs.length ≤ sizeLine ∧
  ∀ p, H p = none → Q (.ref p) (upd H p (.lst (xs ++ zs)))
theorem op_catL {K : PySem.W.Frag} (eK : X.K = K) : OpR X (binaryOp .Add) (rCatL K) := by
  subst eK
  intro pins s σ H x y v u Q I rx ry h
  obtain ⟨l, b, xs, zs, rfl, rfl, h1, h2, hz, q⟩ := h
  cases rx
  cases ry
  obtain ⟨i1, v1, ⟨⟨c1, d1, t1, w1⟩, n1, e1, k1, z1, f1⟩, _⟩ := I.list h1
  obtain ⟨i2, v2, ⟨⟨c2, d2, t2, w2⟩, n2, e2, k2, z2, f2⟩, _⟩ := I.list h2
  simp only at k1 z1 f1 k2 z2 f2
  subst k1 z1 f1 k2 z2 f2
  have g1 := v1.length
  have g2 := v2.length
  refine concat_meets ⟨_, e1, rfl⟩ ⟨_, e2, rfl⟩ noFill_list_add seq_list_add PySem.F.slot_list_add PySem.F.entry_list_add (PySem.F.args_list_add_2 _ _)
    (list_addW l b i1.toArray i2.toArray n1 n2 none none w1 w2 (by rw [List.size_toArray, List.size_toArray]; omega)) ⟨e1, e2, ?_⟩
  have ea : i1.toArray ++ i2.toArray = (i1 ++ i2).toArray := by simp
  rw [ea]
  exact ⟨.ref _, _, I.lnew (t' := s.toks) (v1.append v2) (by rw [List.length_append]; exact hz), rfl, q _ I.fresh⟩
end
end My
/-! the end of a row whose law shows data and whose defs hold tables of code objects -/
namespace My
open PySem PySem.Spec PyProof.Rows L2
open GxR (TabB TabG Tabbed)
theorem law_callGT {P : Program} {w : World} {K : PySem.W.Frag} {mg mb : Str → Option Value} {CX : CXT} {k : Nat}
    {fa a : Addr} {fd : FuncData} {x : Str} {sp : Sp} {s₁ : Shared} {vs : List Value} {ns : List Int} {tabs : List (Addr × Addr)}
    (inK : K.In s₁.heap) (hns : s₁.heap.Ns mainGlobals mg) (hb : s₁.heap.Ns builtinsNs mb)
    (hbb : ∀ x : Str, x ≠ "__name__" → mb x = bootBuiltins x) (hlim : s₁.heap.NoLimit) (hgen : s₁.gens = #[])
    (tE : ∀ t ∈ tabs, s₁.heap.get? t.2 = some { cls := .none, data := .fields #[] }) (tK : ∀ t ∈ tabs, K.lookup t.2 = none)
    (tC : ∀ t ∈ tabs, PySem.W.CodeHd s₁.heap t.1 t.2)
    (bmn : ∃ (m : Addr) (om : Obj), mg "__builtins__" = some (.ref m) ∧ m ≠ builtinsNs ∧ s₁.heap.get? m = some om ∧
      om.cls = .type "module" ∧ om.dict = some builtinsNs ∧ om.data = .plain)
    (ha : s₁.heap.get? a = some { cls := .type "list", data := .seq vs.toArray }) (hi : IntsAre vs ns)
    (hl : ns.length ≤ sizeLine) (room : Room k callerA)
    (F : ∀ base : Heap, K.In base → base.Ns mainGlobals mg → (∀ t ∈ tabs, TabB base mg t.1 t.2) → FnG P w K mg base CX k fa fd [x] sp)
    (bnd : ∀ (s : Shared) (u : Value), BindsTo s fd ⟨[u], []⟩ [(x, u)])
    (hsp : ∀ H : Hp, (∀ t ∈ tabs, TabG H t.2) → SqL K H a (ns.map V.int) → sp [.ref a] H (fun v _ => v = .bl true) fun _ _ _ => False)
    (hCX : ∀ H e s', CX [] H s₁ (fun _ _ _ => False) e s' → False) :
    codeAny (model P w) callerA (.call (.ref fa) ⟨[.ref a], []⟩)
      (fun r s' => r = .ok (.ret (.bool true)) ∧ OldK s₁.heap s'.heap ∧ s'.os = s₁.os ∧ AllBare s'.gens) s₁ := by
  have rv := vals_ints hi
  let ob : Obj := { cls := .type "list", data := .seq vs.toArray }
  have isT : ∀ b, b ∈ tabs.map (·.2) → s₁.heap.get? b = some { cls := .none, data := .fields #[] } := fun b m => by
    obtain ⟨t, ht, e⟩ := List.mem_map.mp m
    exact e ▸ tE t ht
  have inT : ∀ t ∈ tabs, t.2 ∈ tabs.map (·.2) := fun t ht => List.mem_map.mpr ⟨t, ht, rfl⟩
  have notT : a ∉ tabs.map (·.2) := fun m => by
    have z := isT a m
    rw [ha] at z
    exact nomatch (congrArg Obj.data (Option.some.inj z) : Data.seq vs.toArray _ = Data.fields #[])
  have key : ∀ H : Hp, (∀ t ∈ tabs, H t.2 = some (.tbl #[])) →
      (∀ b u, H b = some u → b ∈ tabs.map (·.2) ∨ (b = a ∧ K.lookup a = none ∧ ∃ o xs, u = .frz o (.lst xs))) →
      SqL K H a (ns.map V.int) → HOk P w H s₁.heap → codeAny (model P w) callerA (.call (.ref fa) ⟨[.ref a], []⟩)
        (fun r s' => r = .ok (.ret (.bool true)) ∧ OldK s₁.heap s'.heap ∧ s'.os = s₁.os ∧ AllBare s'.gens) s₁ := by
    intro H hT only sq ok
    -- what is neither a table nor a list is not tracked
    have free : ∀ {b : Addr} {o : Obj}, s₁.heap.get? b = some o → (∀ xs n, o.data ≠ .seq xs n) → o.data ≠ .fields #[] → H b = none := by
      intro b o e n1 n2
      rcases q : H b with _ | u
      · rfl
      · rcases only b u q with m | ⟨rfl, _⟩
        · have z := (isT b m).symm.trans e
          cases z
          exact absurd rfl n2
        · have z := ha.symm.trans e
          cases z
          exact absurd rfl (n1 _ _)
    have plain : ∀ {b : Addr} {m : Str → Option Value}, s₁.heap.Ns b m → (hidT s₁.heap H).Ns b m := by
      rintro b m ⟨o, es, ep, e, d, r⟩
      refine ⟨o, es, ep, hidT_get e (free e (fun xs n z => ?_) fun z => ?_), d, r⟩
      · cases d.symm.trans z
      · cases d.symm.trans z
    have kb : K.In (hidT s₁.heap H) := fun b o e => hidT_get (inK b o e) (by
      rcases q : H b with _ | u
      · rfl
      · rcases only b u q with m | ⟨rfl, n, _⟩
        · obtain ⟨t, ht, et⟩ := List.mem_map.mp m
          have z := tK t ht
          rw [et, e] at z
          cases z
        · rw [e] at n
          cases n)
    have md : Mod K mg (hidT s₁.heap H) :=
      ⟨kb, plain hns, ⟨mb, plain hb, hbb⟩, hlim.elim fun mc z => ⟨mc, plain z.1, z.2⟩⟩
    have tb : ∀ t ∈ tabs, TabB (hidT s₁.heap H) mg t.1 t.2 := by
      intro t ht
      have eT := tE t ht
      constructor
      · obtain ⟨o, us, f1, f2, f3, f4, f5, f6, f7, e1, c1, d1, sz, rest⟩ := tC t ht
        refine ⟨o, us, f1, f2, f3, f4, f5, f6, f7, hidT_get e1 (free e1 (fun xs n z => ?_) fun z => ?_), c1, d1, sz, rest⟩
        · cases d1.symm.trans z
        · cases d1.symm.trans z
          simp at sz
      · obtain ⟨m, om, b1, b2, b3, b4, b5, b6⟩ := bmn
        have away : m ≠ mainGlobals := by
          rintro rfl
          obtain ⟨o, es, ep, e, d, _⟩ := hns
          cases b3.symm.trans e
          cases b6.symm.trans d
        have away2 : m ≠ t.2 := by
          rintro rfl
          cases b3.symm.trans eT
          cases b6
        refine ⟨m, om, b1, b2, away, away2, hidT_get b3 (free b3 (fun xs n z => ?_) fun z => ?_), b4, b5, b6⟩
        · cases b6.symm.trans z
        · cases b6.symm.trans z
      · intro z
        obtain ⟨o, es, ep, e, d, _⟩ := hns
        rw [z] at e
        cases e.symm.trans eT
        cases d
    have e0 : Env0 P w K mg (hidT s₁.heap H) callerA [] s₁ H :=
      ⟨rfl, md, fun b o e => of_hidT e, Nat.le_of_eq (hidT_size _ _), trivial, (by intro b z; cases z), ok, .of_eq hgen⟩
    have tg : ∀ t ∈ tabs, TabG H t.2 := fun t ht => ⟨#[], hT t ht, by trivial⟩
    have run := (F _ kb (plain hns) tb).go callerA [] s₁ H ⟨[.ref a], []⟩ [.ref a] [.ref a] _ _ rfl room e0
      (bnd s₁ (.ref a)) (.cons rfl .nil) (hsp H tg sq)
    refine codeAny_mono run fun out s' h => ?_
    rcases out with e | fl
    · exact (hCX H e s' h).elim
    · cases fl with
      | next => exact h.elim
      | brk => exact h.elim
      | cont => exact h.elim
      | ret u =>
        obtain ⟨v, H', os, bare, un, ok', r', q⟩ := h
        cases (show v = .bl true from q)
        cases (show u = Value.bool true from r')
        have stays : ∀ b o, b ∉ tabs.map (·.2) → s₁.heap.get? b = some o → s'.heap.get? b = some o := by
          intro b o nb e
          rcases q2 : H b with _ | u2
          · exact un.keep b o e q2 (by intro y; cases y) (by intro y; cases y)
          · rcases only b u2 q2 with m | ⟨_, _, o2, xs2, rfl⟩
            · exact absurd m nb
            · have e1 := (ok b _ q2).1
              have e2 := (ok' b _ (un.frzs b o2 _ q2)).1
              cases e1.symm.trans e
              exact e2
        have grown : ∀ t ∈ tabs, ∃ more : Array Value, s'.heap.get? t.2 = some { cls := .none, data := .fields more } := by
          intro t ht
          obtain ⟨more, z⟩ := un.tbls t.2 #[] (hT t ht)
          exact ⟨_, ok' t.2 _ z⟩
        refine ⟨rfl, ⟨fun b o e => ?_, fun b o e => ?_⟩, os, bare⟩
        · by_cases m : b ∈ tabs.map (·.2)
          · obtain ⟨t, ht, rfl⟩ := List.mem_map.mp m
            obtain ⟨more, g⟩ := grown t ht
            cases (tE t ht).symm.trans e
            exact .inr (.inl ⟨((tC t ht).tab (tE t ht)).isCodeTable, rfl, #[], more, rfl, by rw [Array.empty_append]; exact g⟩)
          · exact .inl (stays b o m e)
        · by_cases m : b ∈ tabs.map (·.2)
          · obtain ⟨t, ht, rfl⟩ := List.mem_map.mp m
            obtain ⟨more, g⟩ := grown t ht
            exact ⟨_, g⟩
          · exact ⟨o, stays b o m e⟩
  let T0 : Hp := fun b => if b ∈ tabs.map (·.2) then some (.tbl #[]) else none
  have t0 : ∀ t ∈ tabs, T0 t.2 = some (.tbl #[]) := fun t ht => if_pos (inT t ht)
  have t1 : ∀ b u, T0 b = some u → b ∈ tabs.map (·.2) ∧ u = .tbl #[] := by
    intro b u z
    by_cases m : b ∈ tabs.map (·.2)
    · exact ⟨m, (Option.some.inj ((if_pos m).symm.trans z)).symm⟩
    · cases (if_neg m).symm.trans z
  have okT : ∀ b, b ∈ tabs.map (·.2) → ObjOk P w T0 s₁.heap b (.tbl #[]) := fun b m => isT b m
  cases hk : K.lookup a with
  | some o =>
    have e := inK a o hk
    rw [ha] at e
    cases e
    refine key T0 t0 (fun b u z => .inl (t1 b u z).1) ?_ fun b u z => ?_
    · exact .inr ⟨_, vs.toArray, _, hk, rfl, rfl, rfl, by rw [List.size_toArray, hi.length]; exact hl, by simpa using rv⟩
    · obtain ⟨m, rfl⟩ := t1 b u z
      exact isT b m
  | none =>
    have na : T0 a = none := if_neg notT
    have here : (upd T0 a (.frz ob (.lst (ns.map V.int)))) a = some (.frz ob (.lst (ns.map V.int))) := upd_same
    refine key (upd T0 a (.frz ob (.lst (ns.map V.int)))) (fun t ht => ?_) (fun b u z => ?_) (.inl (.inr ⟨ob, here⟩)) fun b u z => ?_
    · rw [upd_ne fun z : t.2 = a => notT (z ▸ inT t ht)]
      exact t0 t ht
    · by_cases hb : b = a
      · subst hb
        rw [here] at z
        exact .inr ⟨rfl, hk, _, _, (Option.some.inj z).symm⟩
      · rw [upd_ne hb] at z
        exact .inl (t1 b u z).1
    · by_cases hb : b = a
      · subst hb
        rw [here] at z
        cases z
        exact ⟨ha, by rw [List.length_map]; exact hl, vs, _, rv, ha⟩
      · rw [upd_ne hb] at z
        obtain ⟨m, rfl⟩ := t1 b u z
        exact isT b m
/-- what the law's own call asks, with the tables of defs by name -/
def TabsOf (q : Program) (K : PySem.W.Frag) (h : Heap) : Prop := ∀ (x : Str) (c p : Addr), ((recsOf q).any fun e => e.name == x) = true →
  PySem.W.tabIn K x = some (c, p) → PySem.W.CodeHd h c p ∧ h.get? p = some { cls := .none, data := .fields #[] }
def LawGT (l : PySem.W.OpenLaw) (w : World) (K : PySem.W.Frag) (CX : CXT) (k n : Nat) (x : Str) (mg : Str → Option Value) (fa : Addr) (h : Heap) : Prop :=
  ∃ (fd : FuncData) (tabs : List (Addr × Addr)) (sp : Sp), (∀ t ∈ tabs, (PySem.W.CodeHd h t.1 t.2 ∧ h.get? t.2 = some { cls := .none, data := .fields #[] }) ∧ K.lookup t.2 = none) ∧
    (∀ (s : Shared) (u : Value), BindsTo s fd ⟨[u], []⟩ [(x, u)]) ∧
    (∀ (H : Hp) (a : Addr) (ns : List Int), ns.length ≤ n → (∀ t ∈ tabs, TabG H t.2) → SqL K H a (ns.map V.int) → sp [.ref a] H (fun v _ => v = .bl true) fun _ _ _ => False) ∧
    ∀ base : Heap, K.In base → base.Ns mainGlobals mg → (∀ t ∈ tabs, TabB base mg t.1 t.2) → FnG l.prog w K mg base CX k fa fd [x] sp
theorem walk_ofGT {l : PySem.W.OpenLaw} {n k : Nat} {q : Program} {loose : List Str} {XP : (Str → Option Value) → Heap → Prop}
    {YP : World → Heap → Prop} {d : DefRec} {K : Params → PySem.W.Frag} {CX : World → CXT} {x : Str}
    (hn : l.most = some n) (hn2 : n ≤ sizeLine) (hdf : d.params.defaults = []) (room : Room k callerA)
    (hY : ∀ (w : World) (h : Heap), YP w h → (K w.params).In h)
    (F : ∀ (w : World) (mg : Str → Option Value) (fa : Addr) (h : Heap), (K w.params).In h → h.Ns mainGlobals mg →
      mg d.name = some (.ref fa) → TabsOf q (K w.params) h → LawGT l w (K w.params) (CX w) k n x mg fa h)
    (hCX : ∀ (w : World) (H : Hp) (s : Shared) (e : Value) (s' : Shared), CX w [] H s (fun _ _ _ => False) e s' → False) :
    PySem.W.WalkO q loose XP YP l.row.toRowW d [] (fun f vs => PySem.call f vs) := by
  refine Att.attach_callB hn hdf fun w s₀ s₁ mg mb fa o pm cd doc a vs ns G Y _ _ _ hmg hobj hints hlen _ hgen => ?_
  have kx := hY w _ Y
  have ts : TabsOf q (K w.params) s₁.heap := fun x c p hx ht => by
    obtain ⟨e, he, hn⟩ := List.any_eq_true.mp hx
    rcases hf : (recsOf q).find? (fun e => e.name == x) with _ | d'
    · exact absurd hn (by simpa using List.find?_eq_none.mp hf e he)
    · exact PySem.W.tab_of G.T kx hf ht
  obtain ⟨fd, tabs, sp, ht, bnd, hsp, hF⟩ := F w mg fa _ kx G.T.g hmg ts
  exact law_callGT kx G.T.g G.T.b G.T.builtins G.T.nolimit hgen (fun t h => (ht t h).1.2) (fun t h => (ht t h).2) (fun t h => (ht t h).1.1) G.T.bmain
    hobj hints (Nat.le_trans hlen hn2) room hF bnd (fun H tg sq => hsp H a ns hlen tg sq) fun H e s' => hCX w H s₁ e s'
end My
/-! the text by places -/
namespace My
open PySem PySem.Spec PyProof.Rows L2
open GxR (TabB TabG Tabbed)
def top (i : Nat) : Stmt := PySem.Challenge.pw_dimkeepers_k06_whole_mended_one_by_one.main.body.getD i (.Pass ⟨0, 0, 0, 0⟩)
abbrev s_is_number : Stmt := top 4
abbrev N_is_number : List Str := ["found"]
abbrev P_is_number : List Str := ["found"]
theorem sc_is_number : FnScope N_is_number P_is_number (defScope s_is_number) := ⟨rfl, rfl, rfl, by decide +kernel, rfl, by decide +kernel, by decide +kernel⟩
abbrev s_is_name : Stmt := top 5
abbrev N_is_name : List Str := ["found", "sign"]
abbrev P_is_name : List Str := ["found"]
theorem sc_is_name : FnScope N_is_name P_is_name (defScope s_is_name) := ⟨rfl, rfl, rfl, by decide +kernel, rfl, by decide +kernel, by decide +kernel⟩
abbrev s_is_room : Stmt := top 6
abbrev N_is_room : List Str := ["found"]
abbrev P_is_room : List Str := ["found"]
theorem sc_is_room : FnScope N_is_room P_is_room (defScope s_is_room) := ⟨rfl, rfl, rfl, by decide +kernel, rfl, by decide +kernel, by decide +kernel⟩
abbrev s_is_row : Stmt := top 7
abbrev N_is_row : List Str := ["found", "room", "thing"]
abbrev P_is_row : List Str := ["found", "room"]
theorem sc_is_row : FnScope N_is_row P_is_row (defScope s_is_row) := ⟨rfl, rfl, rfl, by decide +kernel, rfl, by decide +kernel, by decide +kernel⟩
abbrev s_is_keeper : Stmt := top 8
abbrev N_is_keeper : List Str := ["found", "name", "room", "whole", "row"]
abbrev P_is_keeper : List Str := ["found"]
theorem sc_is_keeper : FnScope N_is_keeper P_is_keeper (defScope s_is_keeper) := ⟨rfl, rfl, rfl, by decide +kernel, rfl, by decide +kernel, by decide +kernel⟩
abbrev s_is_team : Stmt := top 9
abbrev N_is_team : List Str := ["found", "least", "keepers"]
abbrev P_is_team : List Str := ["found"]
theorem sc_is_team : FnScope N_is_team P_is_team (defScope s_is_team) := ⟨rfl, rfl, rfl, by decide +kernel, rfl, by decide +kernel, by decide +kernel⟩
abbrev s_fault : Stmt := top 10
abbrev N_fault : List Str := ["board", "taken", "t", "team", "k", "keeper"]
abbrev P_fault : List Str := ["board"]
theorem sc_fault : FnScope N_fault P_fault (defScope s_fault) := ⟨rfl, rfl, rfl, by decide +kernel, rfl, by decide +kernel, by decide +kernel⟩
abbrev s_keepers_of : Stmt := top 11
abbrev N_keepers_of : List Str := ["board", "team", "keeper"]
abbrev P_keepers_of : List Str := ["board"]
theorem sc_keepers_of : FnScope N_keepers_of P_keepers_of (defScope s_keepers_of) := ⟨rfl, rfl, rfl, by decide +kernel, rfl, by decide +kernel, by decide +kernel⟩
abbrev s_names : Stmt := top 12
abbrev N_names : List Str := ["board", "keeper"]
abbrev P_names : List Str := ["board"]
theorem sc_names : FnScope N_names P_names (defScope s_names) := ⟨rfl, rfl, rfl, by decide +kernel, rfl, by decide +kernel, by decide +kernel⟩
abbrev s_bag : Stmt := top 14
abbrev N_bag : List Str := ["script", "seed", "cell"]
abbrev P_bag : List Str := ["script"]
theorem sc_bag : FnScope N_bag P_bag (defScope s_bag) := ⟨rfl, rfl, rfl, by decide +kernel, rfl, by decide +kernel, by decide +kernel⟩
abbrev s_draw : Stmt := top 15
abbrev N_draw : List Str := ["bag", "count", "left"]
abbrev P_draw : List Str := ["bag", "count"]
theorem sc_draw : FnScope N_draw P_draw (defScope s_draw) := ⟨rfl, rfl, rfl, by decide +kernel, rfl, by decide +kernel, by decide +kernel⟩
abbrev s_pool : Stmt := top 16
abbrev N_pool : List Str := ["bag", "count", "letters", "style", "found", "k", "tail", "word", "sign"]
abbrev P_pool : List Str := ["bag", "count"]
theorem sc_pool : FnScope N_pool P_pool (defScope s_pool) := ⟨rfl, rfl, rfl, by decide +kernel, rfl, by decide +kernel, by decide +kernel⟩
abbrev s_keeper : Stmt := top 17
abbrev N_keeper : List Str := ["bag", "name", "some", "room", "whole", "left", "row", "k"]
abbrev P_keeper : List Str := ["bag", "name", "some"]
theorem sc_keeper : FnScope N_keeper P_keeper (defScope s_keeper) := ⟨rfl, rfl, rfl, by decide +kernel, rfl, by decide +kernel, by decide +kernel⟩
abbrev s_board : Stmt := top 18
abbrev N_board : List Str := ["bag", "some", "called", "found", "left", "t", "count", "keepers", "k"]
abbrev P_board : List Str := ["bag"]
theorem sc_board : FnScope N_board P_board (defScope s_board) := ⟨rfl, rfl, rfl, by decide +kernel, rfl, by decide +kernel, by decide +kernel⟩
abbrev s_bent : Stmt := top 19
abbrev N_bent : List Str := ["bag", "board", "t", "least", "keepers", "k", "name", "room", "whole", "row", "some", "elder"]
abbrev P_bent : List Str := ["bag", "board"]
theorem sc_bent : FnScope N_bent P_bent (defScope s_bent) := ⟨rfl, rfl, rfl, by decide +kernel, rfl, by decide +kernel, by decide +kernel⟩
abbrev s_place : Stmt := top 20
abbrev N_place : List Str := ["found"]
abbrev P_place : List Str := ["found"]
theorem sc_place : FnScope N_place P_place (defScope s_place) := ⟨rfl, rfl, rfl, by decide +kernel, rfl, by decide +kernel, by decide +kernel⟩
abbrev s_mended : Stmt := top 21
abbrev N_mended : List Str := ["board", "found", "fresh", "t", "least", "keepers", "k"]
abbrev P_mended : List Str := ["board", "found", "fresh"]
theorem sc_mended : FnScope N_mended P_mended (defScope s_mended) := ⟨rfl, rfl, rfl, by decide +kernel, rfl, by decide +kernel, by decide +kernel⟩
abbrev s_right : Stmt := top 22
abbrev N_right : List Str := ["board", "at", "spare", "found", "place", "cut_here", "k", "least", "keepers"]
abbrev P_right : List Str := ["board"]
theorem sc_right : FnScope N_right P_right (defScope s_right) := ⟨rfl, rfl, rfl, by decide +kernel, rfl, by decide +kernel, by decide +kernel⟩
abbrev s_law : Stmt := top 23
abbrev N_law : List Str := ["script", "bag", "turn", "board", "again"]
abbrev P_law : List Str := ["script"]
theorem sc_law : FnScope N_law P_law (defScope s_law) := ⟨rfl, rfl, rfl, by decide +kernel, rfl, by decide +kernel, by decide +kernel⟩
structure Ad where
  f_is_number : Addr
  d_is_number : FuncData
  f_is_name : Addr
  d_is_name : FuncData
  f_is_room : Addr
  d_is_room : FuncData
  f_is_row : Addr
  d_is_row : FuncData
  f_is_keeper : Addr
  d_is_keeper : FuncData
  f_is_team : Addr
  d_is_team : FuncData
  f_fault : Addr
  d_fault : FuncData
  f_keepers_of : Addr
  d_keepers_of : FuncData
  f_names : Addr
  d_names : FuncData
  f_bag : Addr
  d_bag : FuncData
  f_draw : Addr
  d_draw : FuncData
  f_pool : Addr
  d_pool : FuncData
  f_keeper : Addr
  d_keeper : FuncData
  f_board : Addr
  d_board : FuncData
  f_bent : Addr
  d_bent : FuncData
  f_place : Addr
  d_place : FuncData
  f_mended : Addr
  d_mended : FuncData
  f_right : Addr
  d_right : FuncData
structure Txt (K : PySem.W.Frag) (mg : Str → Option Value) (A : Ad) : Prop where
  F_is_number : Fun K "is_number" "is_number" s_is_number A.f_is_number A.d_is_number
  g_is_number : mg "is_number" = some (.ref A.f_is_number)
  b_is_number : Binds K A.d_is_number P_is_number []
  F_is_name : Fun K "is_name" "is_name" s_is_name A.f_is_name A.d_is_name
  g_is_name : mg "is_name" = some (.ref A.f_is_name)
  b_is_name : Binds K A.d_is_name P_is_name []
  F_is_room : Fun K "is_room" "is_room" s_is_room A.f_is_room A.d_is_room
  g_is_room : mg "is_room" = some (.ref A.f_is_room)
  b_is_room : Binds K A.d_is_room P_is_room []
  F_is_row : Fun K "is_row" "is_row" s_is_row A.f_is_row A.d_is_row
  g_is_row : mg "is_row" = some (.ref A.f_is_row)
  b_is_row : Binds K A.d_is_row P_is_row []
  F_is_keeper : Fun K "is_keeper" "is_keeper" s_is_keeper A.f_is_keeper A.d_is_keeper
  g_is_keeper : mg "is_keeper" = some (.ref A.f_is_keeper)
  b_is_keeper : Binds K A.d_is_keeper P_is_keeper []
  F_is_team : Fun K "is_team" "is_team" s_is_team A.f_is_team A.d_is_team
  g_is_team : mg "is_team" = some (.ref A.f_is_team)
  b_is_team : Binds K A.d_is_team P_is_team []
  F_fault : Fun K "fault" "fault" s_fault A.f_fault A.d_fault
  g_fault : mg "fault" = some (.ref A.f_fault)
  b_fault : Binds K A.d_fault P_fault []
  F_keepers_of : Fun K "keepers_of" "keepers_of" s_keepers_of A.f_keepers_of A.d_keepers_of
  g_keepers_of : mg "keepers_of" = some (.ref A.f_keepers_of)
  b_keepers_of : Binds K A.d_keepers_of P_keepers_of []
  F_names : Fun K "names" "names" s_names A.f_names A.d_names
  g_names : mg "names" = some (.ref A.f_names)
  b_names : Binds K A.d_names P_names []
  F_bag : Fun K "_law_bag" "_law_bag" s_bag A.f_bag A.d_bag
  g_bag : mg "_law_bag" = some (.ref A.f_bag)
  b_bag : Binds K A.d_bag P_bag []
  F_draw : Fun K "_law_draw" "_law_draw" s_draw A.f_draw A.d_draw
  g_draw : mg "_law_draw" = some (.ref A.f_draw)
  b_draw : Binds K A.d_draw P_draw []
  F_pool : Fun K "_law_pool" "_law_pool" s_pool A.f_pool A.d_pool
  g_pool : mg "_law_pool" = some (.ref A.f_pool)
  b_pool : Binds K A.d_pool P_pool []
  F_keeper : Fun K "_law_keeper" "_law_keeper" s_keeper A.f_keeper A.d_keeper
  g_keeper : mg "_law_keeper" = some (.ref A.f_keeper)
  b_keeper : Binds K A.d_keeper P_keeper []
  F_board : Fun K "_law_board" "_law_board" s_board A.f_board A.d_board
  g_board : mg "_law_board" = some (.ref A.f_board)
  b_board : Binds K A.d_board P_board []
  F_bent : Fun K "_law_bent" "_law_bent" s_bent A.f_bent A.d_bent
  g_bent : mg "_law_bent" = some (.ref A.f_bent)
  b_bent : Binds K A.d_bent P_bent []
  F_place : Fun K "_law_place" "_law_place" s_place A.f_place A.d_place
  g_place : mg "_law_place" = some (.ref A.f_place)
  b_place : Binds K A.d_place P_place []
  F_mended : Fun K "_law_mended" "_law_mended" s_mended A.f_mended A.d_mended
  g_mended : mg "_law_mended" = some (.ref A.f_mended)
  b_mended : Binds K A.d_mended P_mended []
  F_right : Fun K "_law_right" "_law_right" s_right A.f_right A.d_right
  g_right : mg "_law_right" = some (.ref A.f_right)
  b_right : Binds K A.d_right P_right []
  n_abs : mg "abs" = none
  n_all : mg "all" = none
  n_bool : mg "bool" = none
  n_enumerate : mg "enumerate" = none
  n_int : mg "int" = none
  n_isinstance : mg "isinstance" = none
  n_len : mg "len" = none
  n_list : mg "list" = none
  n_range : mg "range" = none
  n_set : mg "set" = none
  n_sorted : mg "sorted" = none
  n_str : mg "str" = none
  n_sum : mg "sum" = none
  n_tuple : mg "tuple" = none
  g_LETTERS : ∃ tk, mg "LETTERS" = some (.str "abcdefghijklmnopqrstuvwxyz" tk)
  g_MOST_LETTERS : ∃ tk, mg "MOST_LETTERS" = some (.int 8 tk)
  g_MOST_ROOM : ∃ tk, mg "MOST_ROOM" = some (.int 12 tk)
/-- the code objects of the defs that hold generator expressions, and their tables -/
structure Cd where
  kn : Addr
  pn : Addr
  kr : Addr
  pr : Addr
abbrev Cd.tabs (C : Cd) : List Addr := [C.pn, C.pr]
structure TBs (base : Heap) (mg : Str → Option Value) (C : Cd) (A : Ad) : Prop where
  is_name : TabB base mg C.kn C.pn
  c_is_name : A.d_is_name.code = .ref C.kn
  is_row : TabB base mg C.kr C.pr
  c_is_row : A.d_is_row.code = .ref C.kr
end My
namespace My
open PySem PySem.Spec PyProof.Rows L2
open GxR (TabB TabG Tabbed)
def abc : Str := "abcdefghijklmnopqrstuvwxyz"
/-- a name: one to eight small letters -/
def nameS (z : Str) : Bool := decide (1 ≤ z.length ∧ z.length ≤ 8) && z.cps.toList.all fun c => decide (c ∈ abc.cps.toList)
def nameD : PyData → Bool
  | .str z => nameS z
  | _ => false
def numD : PyData → Bool
  | .int _ => true
  | _ => false
/-- the texts in it are no longer than a thousand signs -/
def smallD : PyData → Bool
  | .str z => decide (z.length ≤ 1000)
  | _ => true
def spNum (K : PySem.W.Frag) : Sp := fun vs H Q _ => ∃ (x : V) (d : PyData), vs = [x] ∧ Dp K H x d ∧ Q (.bl (numD d)) H
def spName (K : PySem.W.Frag) (C : Cd) : Sp := fun vs H Q _ => ∃ (x : V) (d : PyData), vs = [x] ∧ Dp K H x d ∧ smallD d = true ∧ Tbs C.tabs H ∧ ∀ H', Gr C.tabs H H' → Q (.bl (nameD d)) H'
section
variable {P : Program} {w : World} {K : PySem.W.Frag} {mg : Str → Option Value} {base : Heap} {A : Ad} {C : Cd}
theorem ok_is_number (T : Txt K mg A) : FnOk P w K mg base CX0 1 A.f_is_number A.d_is_number P_is_number (spNum K) := by
  refine T.F_is_number.ok sc_is_number (fun vs H Q E h => ?_) (fun cdv A' outer s H vs Q E hr h => ?_)
  · obtain ⟨x, d, rfl, _⟩ := h
    rfl
  · obtain ⟨x, d, rfl, hd, k⟩ := h
    refine ⟨_, (pss_one (ps_ret (pe_and (pe_callB call_isi (by rfl) T.n_isinstance (by decide +kernel) (pa_cons (pv 0) (pa_cons (pe_bltn (by rfl) T.n_int (by decide +kernel) (show RelV (.ty "int") (.type "int") from rfl)) pa_nil))) (pe_one (pe_not (pe_callB call_isi (by rfl) T.n_isinstance (by decide +kernel) (pa_cons (pv 0) (pa_cons (pe_bltn (by rfl) T.n_bool (by decide +kernel) (show RelV (.ty "bool") (.type "bool") from rfl)) pa_nil)))))))), ?_⟩
    refine ⟨_, rfl, _, _, _, _, _, rfl, .ty _, dp_ty hd, kitD K d "int" (by decide), _, rfl, ?_⟩
    cases d with
    | int i =>
      refine iteT ?_
      exact ⟨_, rfl, _, _, _, _, _, rfl, .ty _, dp_ty hd, kitD K (.int i) "bool" (by decide), _, rfl, k⟩
    | bool b =>
      refine iteT ?_
      exact ⟨_, rfl, _, _, _, _, _, rfl, .ty _, dp_ty hd, kitD K (.bool b) "bool" (by decide), _, rfl, k⟩
    | _ => exact iteF k
theorem ok_is_name (T : Txt K mg A) (TB : TBs base mg C A) : FnOk P w K mg base CX0 1 A.f_is_name A.d_is_name P_is_name (spName K C) := by
  refine okC T.F_is_name sc_is_name (fun vs H Q E h => ?_) (fun cdv A' outer s H vs Q E hcd hr h => ?_)
  · obtain ⟨x, d, rfl, _⟩ := h
    rfl
  · obtain ⟨x, d, rfl, hd, sm, tb, k⟩ := h
    refine ⟨_, (pss_cons (ps_if (PW.pt (pw_or (pt_not (pt_val (pe_callB call_isi (by rfl) T.n_isinstance (by decide +kernel) (pa_cons (pv 0) (pa_cons (pe_bltn (by rfl) T.n_str (by decide +kernel) (show RelV (.ty "str") (.type "str") from rfl)) pa_nil))))) (pw_or1 (pt_not (pt_chain op_le op_le pe_int (pe_callB call_len_str (by rfl) T.n_len PySem.boot_len (pa_cons (pv 0) pa_nil)) (pe_glob (v := .int 8) rfl T.g_MOST_LETTERS.choose_spec ⟨_, rfl⟩))))))
      (pss_one (ps_ret pe_bl))
      pss_nil)
    (pss_one (ps_ret (pe_allG rfl hr sc_is_name.nd (by rfl) T.n_all (by decide +kernel) (TB.is_name) (hcd.trans TB.c_is_name) (blkOk_by (own := [("sign", 1)]) (N := N_is_name) (sc := defScope s_is_name) (by decide +kernel)) ⟨rfl, rfl, by decide +kernel, rfl⟩ (pi_str (pv 0)) (fun _ => rfl) (fun _ _ _ _ _ _ => (pg_name (i := 1) sc_is_name.nd rfl (Or.inl rfl))) (fun _ _ _ _ _ _ => by exact (pe_cmpR op_in_sign (pv 1) (pe_glob (v := .str abc) rfl T.g_LETTERS.choose_spec ⟨_, rfl⟩) (by rfl))))))), ?_⟩
    refine ⟨_, rfl, _, _, _, _, _, rfl, .ty _, dp_ty hd, kitD K d "str" (by decide), _, rfl, ?_⟩
    by_cases hs : tyD d = "str"
    · rw [decide_eq_true hs, Bool.true_or]
      refine iteF ?_
      cases hd with
      | str z =>
        have lz : z.length ≤ 1000 := of_decide_eq_true sm
        refine ⟨_, rfl, z, rfl, Nat.le_of_lt (small1000 lz), _, _, rfl, rfl, _, rfl, ?_⟩
        by_cases l1 : (1 : Int) ≤ z.length
        · rw [decide_eq_true l1]
          refine iteT ?_
          refine ⟨_, _, rfl, rfl, _, rfl, ?_⟩
          by_cases l8 : (z.length : Int) ≤ 8
          · rw [decide_eq_true l8]
            refine iteF ?_
            refine ⟨_, rfl, z, rfl, tb C.pn (by simp), fun H2 t2 => ?_⟩
            refine ⟨z.cps.size, fun i => decide (z.cps.toList.getD i 0 ∈ abc.cps.toList), fun _ G => Gr C.tabs H G, (Gr.refl tb).tabbed (by simp) t2, fun i G lt gG => ⟨?_, fun y G' yl => ?_⟩, fun G gG => ?_, fun j G _ gG => ?_⟩
            · exact lt
            · obtain ⟨rfl, c, hc, rfl⟩ := yl
              have ec : z.cps.toList.getD i 0 = c := by
                rw [List.getD_eq_getElem?_getD, Array.getElem?_toList, hc]
                rfl
              refine ⟨rfl, _, rfl, c, abc, rfl, rfl, ?_, gG⟩
              show _ = V.bl (decide (z.cps.toList.getD i 0 ∈ abc.cps.toList))
              rw [ec]
            · exact Nat.le_refl _
            · have e : nameD (.str z) = (List.range z.cps.size).all fun i => decide (z.cps.toList.getD i 0 ∈ abc.cps.toList) := by
                show (decide _ && _) = _
                rw [decide_eq_true (by omega), Bool.true_and]
                have sz : z.cps.size = z.cps.toList.length := by simp
                rw [sz, Bool.eq_iff_iff, List.all_eq_true, List.all_eq_true]
                constructor
                · intro h i hi
                  have lt := List.mem_range.mp hi
                  rw [List.getD_eq_getElem?_getD, List.getElem?_eq_getElem lt]
                  exact h _ (List.getElem_mem lt)
                · intro h c hc
                  obtain ⟨i, lt, rfl⟩ := List.getElem_of_mem hc
                  have q := h i (List.mem_range.mpr lt)
                  rw [List.getD_eq_getElem?_getD, List.getElem?_eq_getElem lt] at q
                  exact q
              rw [e] at k
              exact k G gG
          · rw [decide_eq_false l8]
            refine iteT ?_
            have e : nameD (.str z) = false := by
              show (decide _ && _) = false
              rw [decide_eq_false (by omega), Bool.false_and]
            rw [e] at k
            exact k H (Gr.refl tb)
        · rw [decide_eq_false l1]
          refine iteF ?_
          refine ⟨_, rfl, iteT ?_⟩
          have e : nameD (.str z) = false := by
            show (decide _ && _) = false
            rw [decide_eq_false (by omega), Bool.false_and]
          rw [e] at k
          exact k H (Gr.refl tb)
      | bl _ => exact absurd hs (by simp [tyD])
      | int _ => exact absurd hs (by simp [tyD])
      | non => exact absurd hs (by simp [tyD])
      | lst _ _ => exact absurd hs (by simp [tyD])
      | tup _ _ => exact absurd hs (by simp [tyD])
    · rw [decide_eq_false hs]
      refine iteT ?_
      have e : nameD d = false := by
        cases d <;> first | rfl | exact absurd rfl hs
      rw [e] at k
      exact k H (Gr.refl tb)
end
end My
namespace My
open PySem PySem.Spec PyProof.Rows L2
open GxR (TabB TabG Tabbed)
def roomD : PyData → Bool
  | .int i => decide (1 ≤ i ∧ i ≤ 12)
  | _ => false
def strD : PyData → Str
  | .str z => z
  | _ => Str.empty
def rowD (m : Int) : PyData → Bool
  | .list ds => decide ((ds.length : Int) ≤ m) && ds.all nameD && decide ((ds.map strD).Nodup)
  | _ => false
/-- a list of at most a thousand, its texts small -/
def smallL : PyData → Bool
  | .list ds => decide (ds.length ≤ 1000) && ds.all smallD
  | _ => true
theorem names_of {K : PySem.W.Frag} {H : Hp} : ∀ {xs : List V} {ds : List PyData}, DpAll K H xs ds → ds.all nameD = true → xs = (ds.map strD).map V.str
  | _, _, .nil, _ => rfl
  | _, _, .cons (d := d) h r, a => by
    rw [List.all_cons, Bool.and_eq_true] at a
    have ih := names_of r a.2
    cases h with
    | str z => exact congrArg (V.str z :: ·) ih
    | bl _ => exact absurd a.1 (by simp [nameD])
    | int _ => exact absurd a.1 (by simp [nameD])
    | non => exact absurd a.1 (by simp [nameD])
    | lst _ _ => exact absurd a.1 (by simp [nameD])
    | tup _ _ => exact absurd a.1 (by simp [nameD])
def spRoom (K : PySem.W.Frag) : Sp := fun vs H Q _ => ∃ (x : V) (d : PyData), vs = [x] ∧ Dp K H x d ∧ Q (.bl (roomD d)) H
def spRow (K : PySem.W.Frag) (C : Cd) : Sp := fun vs H Q _ => ∃ (x : V) (d : PyData) (m : Int), vs = [x, .int m] ∧ Dp K H x d ∧ smallL d = true ∧ Tbs C.tabs H ∧ ∀ H', Gr C.tabs H H' → Q (.bl (rowD m d)) H'
section
variable {P : Program} {w : World} {K : PySem.W.Frag} {mg : Str → Option Value} {base : Heap} {A : Ad} {C : Cd}
theorem ok_is_room (T : Txt K mg A) : FnOk P w K mg base CX0 2 A.f_is_room A.d_is_room P_is_room (spRoom K) := by
  refine T.F_is_room.ok sc_is_room (fun vs H Q E h => ?_) (fun cdv A' outer s H vs Q E hr h => ?_)
  · obtain ⟨x, d, rfl, _⟩ := h
    rfl
  · obtain ⟨x, d, rfl, hd, k⟩ := h
    refine ⟨_, (pss_one (ps_ret (pe_and (pe_call (ok_is_number T) (hr.mono (by decide)) rfl T.g_is_number T.F_is_number.kp T.b_is_number .nil pass0 (pa_cons (pv 0) pa_nil)) (pe_one (pe_chain op_le op_le pe_int (pv 0) (pe_glob (v := .int 12) rfl T.g_MOST_ROOM.choose_spec ⟨_, rfl⟩)))))), ?_⟩
    refine ⟨_, rfl, x, d, rfl, hd, _, rfl, ?_⟩
    cases hd with
    | int i =>
      refine iteT ?_
      refine ⟨_, rfl, _, _, rfl, rfl, _, rfl, ?_⟩
      have e : roomD (.int i) = decide (1 ≤ i ∧ i ≤ 12) := rfl
      rw [e] at k
      by_cases l1 : 1 ≤ i
      · rw [decide_eq_true l1]
        refine iteT ?_
        refine ⟨_, _, rfl, rfl, ?_⟩
        by_cases l2 : i ≤ 12
        · rw [decide_eq_true ⟨l1, l2⟩] at k
          show Q (V.bl (decide (i ≤ 12))) H
          rw [decide_eq_true l2]
          exact k
        · rw [decide_eq_false fun z => l2 z.2] at k
          show Q (V.bl (decide (i ≤ 12))) H
          rw [decide_eq_false l2]
          exact k
      · rw [decide_eq_false fun z => l1 z.1] at k
        rw [decide_eq_false l1]
        exact iteF k
    | _ => exact iteF k
theorem ok_is_row (T : Txt K mg A) (TB : TBs base mg C A) : FnOk P w K mg base CX0 3 A.f_is_row A.d_is_row P_is_row (spRow K C) := by
  refine okC T.F_is_row sc_is_row (fun vs H Q E h => ?_) (fun cdv A' outer s H vs Q E hcd hr h => ?_)
  · obtain ⟨x, d, m, rfl, _⟩ := h
    rfl
  · obtain ⟨x, d, m, rfl, hd, sm, tb, k⟩ := h
    refine ⟨_, (pss_cons (ps_if (PW.pt (pw_or (pt_not (pt_val (pe_callB call_isi (by rfl) T.n_isinstance (by decide +kernel) (pa_cons (pv 0) (pa_cons (pe_bltn (by rfl) T.n_list (by decide +kernel) (show RelV (.ty "list") (.type "list") from rfl)) pa_nil))))) (pw_or1 (pt_cmpR op_gt (pe_callB (len_seqK (K := K) rfl) (by rfl) T.n_len PySem.boot_len (pa_cons (pv 0) pa_nil)) (pv 1) (nomark _)))))
      (pss_one (ps_ret pe_bl))
      pss_nil)
    (pss_one (ps_ret (pe_and (pe_allG rfl hr sc_is_row.nd (by rfl) T.n_all (by decide +kernel) (TB.is_row) (hcd.trans TB.c_is_row) (blkOk_by (own := [("thing", 2)]) (N := N_is_row) (sc := defScope s_is_row) (by decide +kernel)) ⟨rfl, rfl, by decide +kernel, rfl⟩ (pi_listK (K := K) rfl (pv 0)) (fun _ => rfl) (fun _ _ _ _ _ _ => (pg_name (i := 2) sc_is_row.nd rfl (Or.inl rfl))) (fun _ _ _ _ _ _ => by exact (pe_call (ok_is_name T TB) ((room_G (hr.mono (Nat.le_refl _))).mono (by decide)) rfl T.g_is_name T.F_is_name.kp T.b_is_name .nil pass0 (pa_cons (pv 2) pa_nil)))) (pe_one (pe_cmpR op_eq (pe_callB lenT (by rfl) T.n_len PySem.boot_len (pa_cons (pe_callTy (setLK (K := K) rfl rfl) (by rfl) T.n_set (by decide +kernel) (pa_cons (pv 0) pa_nil)) pa_nil)) (pe_callB (len_seqK (K := K) rfl) (by rfl) T.n_len PySem.boot_len (pa_cons (pv 0) pa_nil)) (nomark _))))))), ?_⟩
    refine ⟨_, rfl, _, _, _, _, _, rfl, .ty _, dp_ty hd, kitD K d "list" (by decide), _, rfl, ?_⟩
    by_cases hs : tyD d = "list"
    · rw [decide_eq_true hs, Bool.true_or]
      refine iteF ?_
      cases hd with
      | @lst a xs ds q ps =>
        have lx := dps_len ps
        have sm' : (decide (ds.length ≤ 1000) && ds.all smallD) = true := sm
        rw [Bool.and_eq_true] at sm'
        have l1000 : ds.length ≤ 1000 := of_decide_eq_true sm'.1
        refine ⟨_, rfl, a, xs, rfl, .inl q, _, rfl, _, _, rfl, rfl, _, rfl, ?_⟩
        by_cases lm : m < (xs.length : Int)
        · rw [decide_eq_true lm]
          refine iteT ?_
          have e : rowD m (.list ds) = false := by
            show (decide _ && _ && _) = false
            rw [decide_eq_false (by omega), Bool.false_and, Bool.false_and]
          rw [e] at k
          exact k H (Gr.refl tb)
        · rw [decide_eq_false lm]
          refine iteF ?_
          have std : ∀ G, Gr C.tabs H G → SqL K G a xs := fun G g => sqL_std (g.std tb) q
          refine ⟨_, rfl, a, rfl, ⟨_, q⟩, tb C.pr (by simp), fun H2 t2 => ?_⟩
          refine ⟨xs.length, fun i => nameD (ds.getD i .none), fun _ G => Gr C.tabs H G, (Gr.refl tb).tabbed (by simp) t2, fun i G lt gG => ⟨⟨xs, xs[i], std G gG, List.getElem?_eq_getElem lt⟩, fun y G' yl => ?_⟩,
            fun G gG => ⟨xs, std G gG, Nat.le_refl _⟩, fun j G _ gG => ?_⟩
          · obtain ⟨rfl, at_⟩ := yl
            have ey := at_ _ (std _ gG)
            obtain ⟨di, edi, hdi⟩ := dps_at ps ey
            have ed : ds.getD i .none = di := by
              rw [List.getD_eq_getElem?_getD, edi]
              rfl
            refine ⟨rfl, _, rfl, y, di, rfl, dp_std (gG.std tb) _ _ hdi, List.all_eq_true.mp sm'.2 di (List.mem_of_getElem? edi), gG.tb, fun H' g' => ⟨?_, gG.trans g'⟩⟩
            show _ = V.bl (nameD (ds.getD i .none))
            rw [ed]
          · have ea : ((List.range xs.length).all fun i => nameD (ds.getD i .none)) = ds.all nameD := by
              rw [lx, Bool.eq_iff_iff, List.all_eq_true, List.all_eq_true]
              constructor
              · intro h d hd
                obtain ⟨i, lt, rfl⟩ := List.getElem_of_mem hd
                have z := h i (List.mem_range.mpr lt)
                rw [List.getD_eq_getElem?_getD, List.getElem?_eq_getElem lt] at z
                exact z
              · intro h i hi
                have lt := List.mem_range.mp hi
                rw [List.getD_eq_getElem?_getD, List.getElem?_eq_getElem lt]
                exact h _ (List.getElem_mem lt)
            have er : rowD m (.list ds) = (ds.all nameD && decide ((ds.map strD).Nodup)) := by
              show (decide _ && _ && _) = _
              rw [decide_eq_true (by omega), Bool.true_and]
            rw [er] at k
            refine ⟨ds.all nameD, congrArg V.bl ea, ?_⟩
            by_cases an : ds.all nameD = true
            · rw [an] at k ⊢
              refine iteT ?_
              rw [Bool.true_and] at k
              have ex := names_of ps an
              have sG : SqL K G a ((ds.map strD).map V.str) := by rw [← ex]; exact std G gG
              have line : scanBound = 4096 := rfl
              refine ⟨_, rfl, a, ds.map strD, rfl, sG, by rw [List.length_map]; omega, fun p np => ?_⟩
              refine ⟨p, _, rfl, upd_same, _, rfl, a, _, rfl, .inl (sqL_std ((gG.new np).std tb) q), rfl, ?_⟩
              have ed : decide (V.int ((distT (ds.map strD)).length : Int) = V.int (xs.length : Int)) = decide ((ds.map strD).Nodup) := by
                rw [Bool.eq_iff_iff, decide_eq_true_iff, decide_eq_true_iff, ← distT_iff, List.length_map, ← lx]
                constructor
                · intro z
                  have z := V.int.inj z
                  omega
                · intro z
                  rw [z]
              rw [ed]
              exact k _ (gG.new np)
            · have an' : ds.all nameD = false := by simpa using an
              rw [an'] at k ⊢
              exact iteF (k G gG)
      | bl _ => exact absurd hs (by simp [tyD])
      | int _ => exact absurd hs (by simp [tyD])
      | non => exact absurd hs (by simp [tyD])
      | str _ => exact absurd hs (by simp [tyD])
      | tup _ _ => exact absurd hs (by simp [tyD])
    · rw [decide_eq_false hs]
      refine iteT ?_
      have e : rowD m d = false := by
        cases d <;> first | rfl | exact absurd rfl hs
      rw [e] at k
      exact k H (Gr.refl tb)
end
end My
namespace My
open PySem PySem.Spec PyProof.Rows L2
open GxR (TabB TabG Tabbed)
def lenD : PyData → Nat
  | .list ds => ds.length
  | _ => 0
def boolD : PyData → Bool
  | .bool _ => true
  | _ => false
def keep4 (n r w l : PyData) : Bool := nameD n && roomD r && boolD w && match r, w with
  | .int m, .bool b => rowD m l && (b || decide ((lenD l : Int) = m))
  | _, _ => false
def keepD : PyData → Bool
  | .tuple [n, r, w, l] => keep4 n r w l
  | _ => false
def smallK : PyData → Bool
  | .tuple [n, _, _, l] => smallD n && smallL l
  | _ => true
def spKeep (K : PySem.W.Frag) (C : Cd) : Sp := fun vs H Q _ => ∃ (x : V) (d : PyData), vs = [x] ∧ Dp K H x d ∧ smallK d = true ∧ Tbs C.tabs H ∧ ∀ H', Gr C.tabs H H' → Q (.bl (keepD d)) H'
def teamD : PyData → Bool
  | .tuple [.int l, .list ks] => decide (0 ≤ l ∧ l ≤ ks.length)
  | _ => false
def spTeam (K : PySem.W.Frag) : Sp := fun vs H Q _ => ∃ (x : V) (d : PyData), vs = [x] ∧ Dp K H x d ∧ Q (.bl (teamD d)) H
theorem four {K : PySem.W.Frag} {H : Hp} {xs : List V} {ds : List PyData} (h : DpAll K H xs ds) (l : xs.length = 4) :
    ∃ a b c e da db dc de, xs = [a, b, c, e] ∧ ds = [da, db, dc, de] ∧ Dp K H a da ∧ Dp K H b db ∧ Dp K H c dc ∧ Dp K H e de := by
  match xs, ds, h, l with
  | [a, b, c, e], [da, db, dc, de], .cons h1 (.cons h2 (.cons h3 (.cons h4 .nil))), _ => exact ⟨a, b, c, e, da, db, dc, de, rfl, rfl, h1, h2, h3, h4⟩
theorem two {K : PySem.W.Frag} {H : Hp} {xs : List V} {ds : List PyData} (h : DpAll K H xs ds) (l : xs.length = 2) :
    ∃ a b da db, xs = [a, b] ∧ ds = [da, db] ∧ Dp K H a da ∧ Dp K H b db := by
  match xs, ds, h, l with
  | [a, b], [da, db], .cons h1 (.cons h2 .nil), _ => exact ⟨a, b, da, db, rfl, rfl, h1, h2⟩
theorem keepD_not {ds : List PyData} (h : ds.length ≠ 4) : keepD (.tuple ds) = false := by
  match ds, h with
  | [], _ => rfl
  | [_], _ => rfl
  | [_, _], _ => rfl
  | [_, _, _], _ => rfl
  | [_, _, _, _], h => exact absurd rfl h
  | _ :: _ :: _ :: _ :: _ :: _, _ => rfl
theorem teamD_not {ds : List PyData} (h : ds.length ≠ 2) : teamD (.tuple ds) = false := by
  match ds, h with
  | [], _ => rfl
  | [a], _ => cases a <;> rfl
  | [_, _], h => exact absurd rfl h
  | a :: b :: _ :: _, _ => cases a <;> cases b <;> rfl
section
variable {P : Program} {w : World} {K : PySem.W.Frag} {mg : Str → Option Value} {base : Heap} {A : Ad} {C : Cd}
theorem ok_is_team (T : Txt K mg A) : FnOk P w K mg base CX0 2 A.f_is_team A.d_is_team P_is_team (spTeam K) := by
  refine T.F_is_team.ok sc_is_team (fun vs H Q E h => ?_) (fun cdv A' outer s H vs Q E hr h => ?_)
  · obtain ⟨x, d, rfl, _⟩ := h
    rfl
  · obtain ⟨x, d, rfl, hd, k⟩ := h
    refine ⟨_, (pss_cons (ps_if (PW.pt (pw_or (pt_not (pt_val (pe_callB call_isi (by rfl) T.n_isinstance (by decide +kernel) (pa_cons (pv 0) (pa_cons (pe_bltn (by rfl) T.n_tuple (by decide +kernel) (show RelV (.ty "tuple") (.type "tuple") from rfl)) pa_nil))))) (pw_or1 (pt_cmpR op_ne (pe_callB (len_seqK (K := K) rfl) (by rfl) T.n_len PySem.boot_len (pa_cons (pv 0) pa_nil)) pe_int (nomark _)))))
      (pss_one (ps_ret pe_bl))
      pss_nil)
    (pss_cons (ps_asg (pv 0) (pg_tup rfl (pgs_cons (pg_name (i := 1) sc_is_team.nd rfl (Or.inl rfl)) (pgs_cons (pg_name (i := 2) sc_is_team.nd rfl (Or.inl rfl)) pgs_nil))))
    (pss_cons (ps_if (PW.pt (pw_or (pt_not (pt_val (pe_callB call_isi (by rfl) T.n_isinstance (by decide +kernel) (pa_cons (pv 2) (pa_cons (pe_bltn (by rfl) T.n_list (by decide +kernel) (show RelV (.ty "list") (.type "list") from rfl)) pa_nil))))) (pw_or1 (pt_not (pt_val (pe_call (ok_is_number T) (hr.mono (by decide)) rfl T.g_is_number T.F_is_number.kp T.b_is_number .nil pass0 (pa_cons (pv 1) pa_nil)))))))
      (pss_one (ps_ret pe_bl))
      pss_nil)
    (pss_one (ps_ret (pe_chain op_le op_le pe_int (pv 1) (pe_callB (len_seqK (K := K) rfl) (by rfl) T.n_len PySem.boot_len (pa_cons (pv 2) pa_nil)))))))), ?_⟩
    refine ⟨_, rfl, _, _, _, _, _, rfl, .ty _, dp_ty hd, kitD K d "tuple" (by decide), _, rfl, ?_⟩
    by_cases hs : tyD d = "tuple"
    · rw [decide_eq_true hs, Bool.true_or]
      refine iteF ?_
      cases hd with
      | @tup a xs ds q ps =>
        have lx := dps_len ps
        refine ⟨_, rfl, a, xs, rfl, .inr q, rfl, _, rfl, ?_⟩
        by_cases l2 : xs.length = 2
        · obtain ⟨v1, v2, d1, d2, rfl, rfl, h1, h2⟩ := two ps l2
          refine iteNS rfl ?_
          refine ⟨_, rfl, a, _, rfl, q, rfl, _, _, rfl, _, _, rfl, rfl, ?_⟩
          refine ⟨_, rfl, _, _, _, _, _, rfl, .ty _, dp_ty h2, kitD K d2 "list" (by decide), _, rfl, ?_⟩
          by_cases hl : tyD d2 = "list"
          · rw [decide_eq_true hl, Bool.true_or]
            refine iteF ?_
            refine ⟨_, rfl, v1, d1, rfl, h1, _, rfl, ?_⟩
            cases h2 with
            | @lst c ks es qc pk =>
              have lk := dps_len pk
              cases h1 with
              | int i =>
                refine iteF ?_
                refine ⟨_, rfl, _, _, rfl, rfl, _, rfl, ?_⟩
                have e : teamD (.tuple [.int i, .list es]) = decide (0 ≤ i ∧ i ≤ (es.length : Int)) := rfl
                rw [e] at k
                by_cases l1 : 0 ≤ i
                · rw [decide_eq_true l1]
                  refine iteT ?_
                  refine ⟨_, rfl, c, ks, rfl, .inl qc, _, _, rfl, rfl, ?_⟩
                  show Q (V.bl (decide (i ≤ (ks.length : Int)))) H
                  have z : decide (i ≤ (ks.length : Int)) = decide (0 ≤ i ∧ i ≤ (es.length : Int)) := by
                    rw [Bool.eq_iff_iff, decide_eq_true_iff, decide_eq_true_iff, lk]
                    omega
                  rw [z]
                  exact k
                · rw [decide_eq_false l1]
                  rw [decide_eq_false fun z => l1 z.1] at k
                  exact iteF k
              | _ => exact iteT k
            | bl _ => exact absurd hl (by simp [tyD])
            | int _ => exact absurd hl (by simp [tyD])
            | non => exact absurd hl (by simp [tyD])
            | str _ => exact absurd hl (by simp [tyD])
            | tup _ _ => exact absurd hl (by simp [tyD])
          · rw [decide_eq_false hl]
            refine iteT ?_
            have e : teamD (.tuple [d1, d2]) = false := by
              cases d1 <;> cases d2 <;> first | rfl | exact absurd rfl hl
            rw [e] at k
            exact k
        · have e : (!decide (V.int (xs.length : Int) = V.int 2)) = true := by
            rw [decide_eq_false fun z => l2 (by have := V.int.inj z; omega)]
            rfl
          rw [e]
          refine iteT ?_
          rw [teamD_not (by omega)] at k
          exact k
      | bl _ => exact absurd hs (by simp [tyD])
      | int _ => exact absurd hs (by simp [tyD])
      | non => exact absurd hs (by simp [tyD])
      | str _ => exact absurd hs (by simp [tyD])
      | lst _ _ => exact absurd hs (by simp [tyD])
    · rw [decide_eq_false hs]
      refine iteT ?_
      have e : teamD d = false := by
        cases d <;> first | rfl | exact absurd rfl hs
      rw [e] at k
      exact k
theorem ok_is_keeper (T : Txt K mg A) (TB : TBs base mg C A) : FnOk P w K mg base CX0 4 A.f_is_keeper A.d_is_keeper P_is_keeper (spKeep K C) := by
  refine T.F_is_keeper.ok sc_is_keeper (fun vs H Q E h => ?_) (fun cdv A' outer s H vs Q E hr h => ?_)
  · obtain ⟨x, d, rfl, _⟩ := h
    rfl
  · obtain ⟨x, d, rfl, hd, sm, tb, k⟩ := h
    refine ⟨_, (pss_cons (ps_if (PW.pt (pw_or (pt_not (pt_val (pe_callB call_isi (by rfl) T.n_isinstance (by decide +kernel) (pa_cons (pv 0) (pa_cons (pe_bltn (by rfl) T.n_tuple (by decide +kernel) (show RelV (.ty "tuple") (.type "tuple") from rfl)) pa_nil))))) (pw_or1 (pt_cmpR op_ne (pe_callB (len_seqK (K := K) rfl) (by rfl) T.n_len PySem.boot_len (pa_cons (pv 0) pa_nil)) pe_int (nomark _)))))
      (pss_one (ps_ret pe_bl))
      pss_nil)
    (pss_cons (ps_asg (pv 0) (pg_tup rfl (pgs_cons (pg_name (i := 1) sc_is_keeper.nd rfl (Or.inl rfl)) (pgs_cons (pg_name (i := 2) sc_is_keeper.nd rfl (Or.inl rfl)) (pgs_cons (pg_name (i := 3) sc_is_keeper.nd rfl (Or.inl rfl)) (pgs_cons (pg_name (i := 4) sc_is_keeper.nd rfl (Or.inl rfl)) pgs_nil))))))
    (pss_cons (ps_if (PW.pt (pw_or (pt_not (pt_val (pe_call (ok_is_name T TB) (hr.mono (by decide)) rfl T.g_is_name T.F_is_name.kp T.b_is_name .nil pass0 (pa_cons (pv 1) pa_nil)))) (pw_or (pt_not (pt_val (pe_call (ok_is_room T) (hr.mono (by decide)) rfl T.g_is_room T.F_is_room.kp T.b_is_room .nil pass0 (pa_cons (pv 2) pa_nil)))) (pw_or1 (pt_not (pt_val (pe_callB call_isi (by rfl) T.n_isinstance (by decide +kernel) (pa_cons (pv 3) (pa_cons (pe_bltn (by rfl) T.n_bool (by decide +kernel) (show RelV (.ty "bool") (.type "bool") from rfl)) pa_nil)))))))))
      (pss_one (ps_ret pe_bl))
      pss_nil)
    (pss_one (ps_ret (pe_and (pe_call (ok_is_row T TB) (hr.mono (by decide)) rfl T.g_is_row T.F_is_row.kp T.b_is_row .nil pass0 (pa_cons (pv 4) (pa_cons (pv 2) pa_nil))) (pe_one (pe_or (pv 3) (pe_one (pe_cmpR op_eq (pe_callB (len_seqK (K := K) rfl) (by rfl) T.n_len PySem.boot_len (pa_cons (pv 4) pa_nil)) (pv 2) (nomark _))))))))))), ?_⟩
    refine ⟨_, rfl, _, _, _, _, _, rfl, .ty _, dp_ty hd, kitD K d "tuple" (by decide), _, rfl, ?_⟩
    by_cases hs : tyD d = "tuple"
    · rw [decide_eq_true hs, Bool.true_or]
      refine iteF ?_
      cases hd with
      | @tup a xs ds q ps =>
        have lx := dps_len ps
        refine ⟨_, rfl, a, xs, rfl, .inr q, rfl, _, rfl, ?_⟩
        by_cases l4 : xs.length = 4
        · obtain ⟨v1, v2, v3, v4, d1, d2, d3, d4, rfl, rfl, h1, h2, h3, h4⟩ := four ps l4
          have sm' : (smallD d1 && smallL d4) = true := sm
          rw [Bool.and_eq_true] at sm'
          have ek : keepD (.tuple [d1, d2, d3, d4]) = keep4 d1 d2 d3 d4 := rfl
          rw [ek] at k
          refine iteNS rfl ?_
          refine ⟨_, rfl, a, _, rfl, q, rfl, _, _, rfl, _, _, rfl, _, _, rfl, _, _, rfl, rfl, ?_⟩
          refine ⟨_, rfl, v1, d1, rfl, h1, sm'.1, tb, fun H1 g1 => ⟨_, rfl, ?_⟩⟩
          by_cases n1 : nameD d1 = true
          · rw [n1]
            refine iteF ?_
            have std := g1.std tb
            refine ⟨_, rfl, v2, d2, rfl, dp_std std _ _ h2, _, rfl, ?_⟩
            by_cases n2 : roomD d2 = true
            · rw [n2]
              refine iteF ?_
              refine ⟨_, rfl, _, _, _, _, _, rfl, .ty _, dp_ty (dp_std std _ _ h3), kitD K d3 "bool" (by decide), _, rfl, ?_⟩
              by_cases hb : tyD d3 = "bool"
              · rw [decide_eq_true hb, Bool.true_or]
                refine iteF ?_
                cases h2 with
                | int m =>
                  cases h3 with
                  | bl b =>
                    have ek2 : keep4 d1 (.int m) (.bool b) d4 = (rowD m d4 && (b || decide ((lenD d4 : Int) = m))) := by
                      unfold keep4
                      rw [n1, n2]
                      rfl
                    rw [ek2] at k
                    refine ⟨_, rfl, _, rfl, v4, d4, m, rfl, dp_std std _ _ h4, sm'.2, g1.tb, fun H2 g2 => ⟨_, rfl, ?_⟩⟩
                    by_cases n4 : rowD m d4 = true
                    · rw [n4] at k ⊢
                      refine iteT ?_
                      rw [Bool.true_and] at k
                      refine ⟨_, rfl, _, rfl, ?_⟩
                      cases b with
                      | true => exact iteT (k H2 (g1.trans g2))
                      | false =>
                        refine iteF ?_
                        rw [Bool.false_or] at k
                        cases h4 with
                        | @lst c ks es qc pk =>
                          have lk := dps_len pk
                          refine ⟨_, rfl, c, ks, rfl, .inl (sqL_std ((g1.trans g2).std tb) qc), _, rfl, rfl, ?_⟩
                          have z : decide (V.int (ks.length : Int) = V.int m) = decide ((lenD (.list es) : Int) = m) := by
                            rw [Bool.eq_iff_iff, decide_eq_true_iff, decide_eq_true_iff, lk]
                            exact ⟨fun z => V.int.inj z, fun z => congrArg V.int z⟩
                          rw [z]
                          exact k H2 (g1.trans g2)
                        | bl _ => exact absurd n4 (by simp [rowD])
                        | int _ => exact absurd n4 (by simp [rowD])
                        | non => exact absurd n4 (by simp [rowD])
                        | str _ => exact absurd n4 (by simp [rowD])
                        | tup _ _ => exact absurd n4 (by simp [rowD])
                    · have n4' : rowD m d4 = false := by simpa using n4
                      rw [n4'] at k ⊢
                      exact iteF (k H2 (g1.trans g2))
                  | int _ => exact absurd hb (by simp [tyD])
                  | non => exact absurd hb (by simp [tyD])
                  | str _ => exact absurd hb (by simp [tyD])
                  | lst _ _ => exact absurd hb (by simp [tyD])
                  | tup _ _ => exact absurd hb (by simp [tyD])
                | bl _ => exact absurd n2 (by simp [roomD])
                | non => exact absurd n2 (by simp [roomD])
                | str _ => exact absurd n2 (by simp [roomD])
                | lst _ _ => exact absurd n2 (by simp [roomD])
                | tup _ _ => exact absurd n2 (by simp [roomD])
              · rw [decide_eq_false hb]
                refine iteT ?_
                have e : keep4 d1 d2 d3 d4 = false := by
                  have b3 : boolD d3 = false := by
                    cases d3 <;> first | rfl | exact absurd rfl hb
                  unfold keep4
                  rw [b3, Bool.and_false, Bool.false_and]
                rw [e] at k
                exact k H1 g1
            · have n2' : roomD d2 = false := by simpa using n2
              rw [n2']
              refine iteT ?_
              have e : keep4 d1 d2 d3 d4 = false := by
                unfold keep4
                rw [n2', Bool.and_false, Bool.false_and, Bool.false_and]
              rw [e] at k
              exact k H1 g1
          · have n1' : nameD d1 = false := by simpa using n1
            rw [n1']
            refine iteT ?_
            have e : keep4 d1 d2 d3 d4 = false := by
              unfold keep4
              rw [n1', Bool.false_and, Bool.false_and, Bool.false_and]
            rw [e] at k
            exact k H1 g1
        · have e : (!decide (V.int (xs.length : Int) = V.int 4)) = true := by
            rw [decide_eq_false fun z => l4 (by have := V.int.inj z; omega)]
            rfl
          rw [e]
          refine iteT ?_
          rw [keepD_not (by omega)] at k
          exact k H (Gr.refl tb)
      | bl _ => exact absurd hs (by simp [tyD])
      | int _ => exact absurd hs (by simp [tyD])
      | non => exact absurd hs (by simp [tyD])
      | str _ => exact absurd hs (by simp [tyD])
      | lst _ _ => exact absurd hs (by simp [tyD])
    · rw [decide_eq_false hs]
      refine iteT ?_
      have e : keepD d = false := by
        cases d <;> first | rfl | exact absurd rfl hs
      rw [e] at k
      exact k H (Gr.refl tb)
end
end My
namespace My
open PySem PySem.Spec PyProof.Rows L2
open GxR (TabB TabG Tabbed)
theorem for_en {K : PySem.W.Frag} {a : Addr} {xs : List V} {g : TG} {tb : TS} {D : Ends} {σ : L2.St} {H : Hp} (Pv : Nat → L2.St → Hp → Prop) (h0 : Pv 0 σ H) (hl : ∀ i σ H, i ≤ xs.length → Pv i σ H → SqL K H a xs)
    (hs : ∀ i x T σ H, xs[i]? = some x → Pv i σ H → H T = none → g (.ref T) σ (upd H T (.tup [.int (i : Nat), x])) fun σ2 H2 => tb { D with nx := Pv (i + 1), ct := Pv (i + 1), bk := D.nx } σ2 H2) (hd : ∀ σ H, Pv xs.length σ H → D.nx σ H) :
    ∃ W : Nat → Nat → L2.St → Hp → Prop, (∃ m, W 0 m σ H) ∧ ∀ i m σ H, W i m σ H →
      ((Ite K a).stop i H ∧ D.nx σ H) ∨ ((Ite K a).go i H ∧ ∃ N : L2.St → Hp → Prop, (∀ σ' H', N σ' H' → ∃ m', m' < m ∧ W (i + 1) m' σ' H') ∧ ∀ x H', (Ite K a).yld i H x H' → g x σ H' fun σ2 H2 => tb { D with nx := N, ct := N, bk := D.nx } σ2 H2) := by
  refine ⟨fun i m σ H => m = xs.length - i ∧ i ≤ xs.length ∧ Pv i σ H, ⟨xs.length, by simp, Nat.zero_le _, h0⟩, ?_⟩
  rintro i m σ H ⟨rfl, hi, p⟩
  have q := hl i σ H hi p
  by_cases lt : i < xs.length
  · refine .inr ⟨⟨xs, xs[i], q, List.getElem?_eq_getElem lt⟩, Pv (i + 1), fun σ' H' p' => ⟨xs.length - (i + 1), by omega, rfl, lt, p'⟩, fun x H' y => ?_⟩
    obtain ⟨T, v, rfl, hT, rfl, e⟩ := y
    exact hs i v T σ H (e xs q) p hT
  · have e : i = xs.length := by omega
    subst e
    exact .inl ⟨⟨xs, q, Nat.le_refl _⟩, hd σ H p⟩
inductive Flt where
  | team (t : Nat)
  | keep (t k : Nat)
  | twice (t k : Nat)
def kidsD : PyData → List PyData
  | .tuple [_, .list ks] => ks
  | _ => []
def nameOf : PyData → Str
  | .tuple (.str z :: _) => z
  | _ => Str.empty
def goK (t : Nat) : Nat → List Str → List PyData → Sum Flt (List Str)
  | _, tk, [] => .inr tk
  | k, tk, d :: ds => if keepD d = true then (if nameOf d ∈ tk then .inl (.twice t k) else goK t (k + 1) (tk ++ [nameOf d]) ds) else .inl (.keep t k)
def goT : Nat → List Str → List PyData → Option Flt
  | _, _, [] => none
  | t, tk, d :: ds => if teamD d = true then (match goK t 0 tk (kidsD d) with
      | .inl f => some f
      | .inr tk' => goT (t + 1) tk' ds) else some (.team t)
def faultD (ds : List PyData) : Option Flt := goT 0 [] ds
def fltV : Flt → List V
  | .team t => [.str "team", .int (t : Nat)]
  | .keep t k => [.str "keeper", .int (t : Nat), .int (k : Nat)]
  | .twice t k => [.str "twice", .int (t : Nat), .int (k : Nat)]
/-- boards that are not too great, their texts small -/
structure Few (ds : List PyData) : Prop where
  n : ds.length ≤ 10
  k : ∀ d ∈ ds, (kidsD d).length ≤ 100
  sm : ∀ d ∈ ds, ∀ e ∈ kidsD d, smallK e = true
/-- the value that tells such a fault -/
def Tells (o : Option Flt) (G : Hp) (v : V) : Prop := match o with
  | none => v = .non
  | some f => ∃ q, v = .ref q ∧ G q = some (.tup (fltV f))
def spFault (K : PySem.W.Frag) (C : Cd) : Sp := fun vs H Q _ => ∃ (a : Addr) (xs : List V) (ds : List PyData), vs = [.ref a] ∧ SqL K H a xs ∧ DpAll K H xs ds ∧ Few ds ∧ Tbs C.tabs H ∧
  ∀ u H', Tells (faultD ds) H' u → Gr C.tabs H H' → Q u H'
theorem Gr.free {ps : List Addr} {H H' : Hp} {p : Addr} (g : Gr ps H H') (h : H' p = none) : H p = none := by
  cases e : H p with
  | none => rfl
  | some o =>
    by_cases m : p ∈ ps
    · obtain ⟨xs, y, _⟩ := g.tb p m
      rw [h] at y
      cases y
    · have z := g.keep p o m e
      rw [h] at z
      cases z
theorem Gr.over {ps : List Addr} {H H' : Hp} {q : Addr} {o u : HO} (g : Gr ps H H') (h : H q = none) (h2 : H' q = some u) (nt : ∀ xs, u ≠ .tbl xs) : Gr ps H (upd H' q o) := by
  refine ⟨fun p hp => ?_, fun c v n e => ?_⟩
  · obtain ⟨xs, y, r⟩ := g.tb p hp
    have ne : p ≠ q := fun z => by
      rw [z, h2] at y
      exact nt xs (Option.some.inj y)
    exact ⟨xs, by rw [upd_ne ne]; exact y, r⟩
  · rw [upd_ne (ne_of_none e h)]
    exact g.keep c v n e
theorem team_shape {d : PyData} (h : teamD d = true) : ∃ l ks, d = .tuple [.int l, .list ks] := by
  unfold teamD at h
  split at h
  · exact ⟨_, _, rfl⟩
  · cases h
theorem keep_shape {d : PyData} (h : keepD d = true) : ∃ z r b l, d = .tuple [.str z, r, b, l] := by
  unfold keepD at h
  split at h
  · rename_i n r b l
    unfold keep4 at h
    rw [Bool.and_eq_true, Bool.and_eq_true, Bool.and_eq_true] at h
    have hn := h.1.1.1
    unfold nameD at hn
    split at hn
    · exact ⟨_, _, _, _, rfl⟩
    · cases hn
  · cases h
theorem drop_at {α : Type} {xs : List α} {i : Nat} {x : α} (h : xs[i]? = some x) : xs.drop i = x :: xs.drop (i + 1) := by
  obtain ⟨lt, rfl⟩ := List.getElem?_eq_some_iff.mp h
  exact List.drop_eq_getElem_cons lt
section
variable {P : Program} {w : World} {K : PySem.W.Frag} {mg : Str → Option Value} {base : Heap} {A : Ad} {C : Cd}
theorem ok_fault (T : Txt K mg A) (TB : TBs base mg C A) : FnOk P w K mg base CX0 5 A.f_fault A.d_fault P_fault (spFault K C) := by
  refine T.F_fault.ok sc_fault (fun vs H Q E h => ?_) (fun cdv A' outer s H vs Q E hr h => ?_)
  · obtain ⟨a, xs, ds, rfl, _⟩ := h
    rfl
  · obtain ⟨a, xs, ds, rfl, hq, hds, few, tb, kQ⟩ := h
    have kN : ∀ G, faultD ds = none → Gr C.tabs H G → Q .non G := fun G e g => kQ _ G (by rw [e]; rfl) g
    have kF : ∀ f p G, faultD ds = some f → Gr C.tabs H G → H p = none → G p = some (.tup (fltV f)) → Q (.ref p) G := fun f p G e g np hp => kQ _ G (by rw [e]; exact ⟨p, rfl, hp⟩) g
    refine ⟨_, (pss_cons (ps_set (i := 1) sc_fault.nd rfl (Or.inl rfl) (pe_callTy0 cr_set0K (by rfl) T.n_set (by decide +kernel)))
    (pss_cons (ps_for PassesOwn.never rfl (pi_enum (by rfl) T.n_enumerate (pa_cons (pv 0) pa_nil)) (pg_tup rfl (pgs_cons (pg_name (i := 2) sc_fault.nd rfl (Or.inl rfl)) (pgs_cons (pg_name (i := 3) sc_fault.nd rfl (Or.inl rfl)) pgs_nil)))
      (pss_cons (ps_if (pt_not (pt_val (pe_call (ok_is_team T) (hr.mono (by decide)) rfl T.g_is_team T.F_is_team.kp T.b_is_team .nil pass0 (pa_cons (pv 3) pa_nil))))
        (pss_one (ps_ret (pe_tup (pa_cons pe_str (pa_cons (pv 2) pa_nil)))))
        pss_nil)
      (pss_one (ps_for PassesOwn.never rfl (pi_enum (by rfl) T.n_enumerate (pa_cons (pe_ix (ix_tupK (K := K) rfl) (pv 3) pe_int (fun _ _ => rfl)) pa_nil)) (pg_tup rfl (pgs_cons (pg_name (i := 4) sc_fault.nd rfl (Or.inl rfl)) (pgs_cons (pg_name (i := 5) sc_fault.nd rfl (Or.inl rfl)) pgs_nil)))
        (pss_cons (ps_if (pt_not (pt_val (pe_call (ok_is_keeper T TB) (hr.mono (by decide)) rfl T.g_is_keeper T.F_is_keeper.kp T.b_is_keeper .nil pass0 (pa_cons (pv 5) pa_nil))))
          (pss_one (ps_ret (pe_tup (pa_cons pe_str (pa_cons (pv 2) (pa_cons (pv 4) pa_nil))))))
          pss_nil)
        (pss_cons (ps_if (pt_cmpR or_sinK (pe_ix (ix_tupK (K := K) rfl) (pv 5) pe_int (fun _ _ => rfl)) (pv 1) (by rfl))
          (pss_one (ps_ret (pe_tup (pa_cons pe_str (pa_cons (pv 2) (pa_cons (pv 4) pa_nil))))))
          pss_nil)
        (pss_one (ps_expr (pe_saddK (pv 1) (pa_cons (pe_ix (ix_tupK (K := K) rfl) (pv 5) pe_int (fun _ _ => rfl)) pa_nil))))))))))
    (pss_one (ps_ret pe_non)))), ?_⟩
    have lx := dps_len hds
    have few1 := few.n
    refine ⟨rfl, fun S nS => ?_⟩
    have g0 : Gr C.tabs H (upd H S (SetK P w S (fun _ => false) 0)) := (Gr.refl tb).new nS
    refine ⟨_, rfl, a, xs, rfl, sqL_std (g0.std tb) hq, for_en (K := K) (a := a) (xs := xs) (fun i σ G => Gr C.tabs H G ∧ H S = none ∧ ∃ (tk : List Str) (Sf : L2.Key → Bool) (v2 v3 v4 v5 : Option V),
        σ = [some (.ref a), some (.ref S), v2, v3, v4, v5] ∧ G S = some (SetK P w S Sf tk.length) ∧ (∀ z, Sf (.inr z) = decide (z ∈ tk)) ∧ tk.length ≤ 100 * i ∧ faultD ds = goT i tk (ds.drop i))
      ⟨g0, nS, [], _, none, none, none, none, rfl, upd_same, (by intro z; simp), Nat.le_refl _, rfl⟩ (fun i σ G _ z => sqL_std (z.1.std tb) hq) ?_ ?_⟩
    · rintro i x U σ G hi ⟨gG, nS, tk, Sf, v2, v3, v4, v5, rfl, hS, hSf, ltk, hf⟩ nU
      obtain ⟨di, edi, hdi⟩ := dps_at hds hi
      have gG1 : Gr C.tabs H (upd G U (.tup [.int (i : Nat), x])) := gG.new nU
      have hS1 : upd G U (.tup [.int (i : Nat), x]) S = some (SetK P w S Sf tk.length) := by rw [upd_ne (ne_of_none hS nU)]; exact hS
      have std1 := gG1.std tb
      have il : i < ds.length := (List.getElem?_eq_some_iff.mp edi).1
      have hf1 : faultD ds = goT i tk (di :: ds.drop (i + 1)) := by rw [hf, drop_at edi]
      refine ⟨U, _, rfl, SqT.of upd_same, rfl, _, _, rfl, _, _, rfl, rfl, ?_⟩
      refine ⟨_, rfl, x, di, rfl, dp_std std1 _ _ hdi, _, rfl, ?_⟩
      by_cases ht : teamD di = true
      · rw [ht]
        refine iteF ?_
        obtain ⟨l, ks, rfl⟩ := team_shape ht
        have fk := few.k _ (List.mem_of_getElem? edi)
        have fs := few.sm _ (List.mem_of_getElem? edi)
        have fk : ks.length ≤ 100 := fk
        have fs : ∀ e ∈ ks, smallK e = true := fs
        cases hdi with
        | @tup b zs _ qb pb =>
          obtain ⟨v1, v2', d1, d2, rfl, ed, hv1, hv2⟩ := two pb (dps_len pb)
          obtain ⟨rfl, rfl⟩ : d1 = .int l ∧ d2 = .list ks := by
            have z1 := List.cons.inj ed
            have z2 := List.cons.inj z1.2
            exact ⟨z1.1.symm, z2.1.symm⟩
          cases hv2 with
          | @lst c ys _ qc pc =>
            have ly := dps_len pc
            refine ⟨_, rfl, b, _, _, _, rfl, rfl, sqT_std std1 qb, rfl, c, ys, rfl, sqL_std std1 qc, for_en (K := K) (a := c) (xs := ys) (fun k σ F => Gr C.tabs H F ∧ ∃ (tk' : List Str) (Sf' : L2.Key → Bool) (v4 v5 : Option V),
                σ = [some (.ref a), some (.ref S), some (.int (i : Nat)), some (.ref b), v4, v5] ∧ F S = some (SetK P w S Sf' tk'.length) ∧ (∀ z, Sf' (.inr z) = decide (z ∈ tk')) ∧ tk'.length ≤ 100 * i + k ∧ goK i 0 tk ks = goK i k tk' (ks.drop k))
              ⟨gG1, tk, Sf, _, _, rfl, hS1, hSf, by omega, rfl⟩ (fun k σ F _ z => sqL_std (z.1.std tb) qc) ?_ ?_⟩
            · rintro k y U' σ F hk ⟨gF, tk', Sf', v4, v5, rfl, hSF, hSf', ltk', hg⟩ nU'
              obtain ⟨dj, edj, hdj⟩ := dps_at pc hk
              have gF1 : Gr C.tabs H (upd F U' (.tup [.int (k : Nat), y])) := gF.new nU'
              have hSF1 : upd F U' (.tup [.int (k : Nat), y]) S = some (SetK P w S Sf' tk'.length) := by rw [upd_ne (ne_of_none hSF nU')]; exact hSF
              have kl : k < ks.length := (List.getElem?_eq_some_iff.mp edj).1
              have hg1 : goK i 0 tk ks = goK i k tk' (dj :: ks.drop (k + 1)) := by rw [hg, drop_at edj]
              have out : ∀ f, goK i k tk' (dj :: ks.drop (k + 1)) = .inl f → faultD ds = some f := fun f e => by
                rw [hf1]
                show (if teamD _ = true then (match goK i 0 tk ks with | .inl f => some f | .inr tk' => goT (i + 1) tk' _) else _) = _
                rw [if_pos ht, hg1, e]
              refine ⟨U', _, rfl, SqT.of upd_same, rfl, _, _, rfl, _, _, rfl, rfl, ?_⟩
              refine ⟨_, rfl, y, dj, rfl, dp_std (gF1.std tb) _ _ hdj, fs dj (List.mem_of_getElem? edj), gF1.tb, fun F2 g2 => ⟨_, rfl, ?_⟩⟩
              have gF2 := gF1.trans g2
              have hSF2 : F2 S = some (SetK P w S Sf' tk'.length) := g2.std gF1.tb S _ hSF1 fun ps z => by cases z
              by_cases hkd : keepD dj = true
              · rw [hkd]
                refine iteF ?_
                obtain ⟨z, r, b', l', rfl⟩ := keep_shape hkd
                cases hdj with
                | @tup e us _ qe pe =>
                  obtain ⟨u1, u2, u3, u4, e1, e2, e3, e4, rfl, ee, hu, _, _, _⟩ := four pe (dps_len pe)
                  obtain rfl : e1 = .str z := (List.cons.inj ee).1.symm
                  cases hu with
                  | str _ =>
                    refine ⟨_, rfl, e, _, _, _, rfl, rfl, sqT_std (gF2.std tb) qe, rfl, _, rfl, .inr z, S, Sf', _, rfl, rfl, hSF2, _, rfl, ?_⟩
                    by_cases m : z ∈ tk'
                    · have es : Sf' (.inr z) = true := by rw [hSf', decide_eq_true m]
                      show if (if false = true then !Sf' (.inr z) else Sf' (.inr z)) = true then _ else _
                      rw [if_neg Bool.false_ne_true, es]
                      refine iteT ?_
                      refine ⟨_, rfl, _, rfl, (show 3 ≤ sizeLine by decide), fun p np => ?_⟩
                      refine kF (.twice i k) p _ (out _ ?_) (gF2.new np) (gF2.free np) upd_same
                      show (if keepD _ = true then (if nameOf _ ∈ tk' then _ else _) else _) = _
                      rw [if_pos hkd]
                      exact if_pos m
                    · have es : Sf' (.inr z) = false := by rw [hSf', decide_eq_false m]
                      show if (if false = true then !Sf' (.inr z) else Sf' (.inr z)) = true then _ else _
                      rw [if_neg Bool.false_ne_true, es]
                      refine iteF ?_
                      have line : scanBound = 4096 := rfl
                      refine ⟨_, rfl, ⟨S, Sf', _, rfl, hSF2⟩, _, rfl, e, _, _, _, rfl, rfl, sqT_std (gF2.std tb) qe, rfl, S, .inr z, Sf', _, rfl, rfl, hSF2, by omega, ?_⟩
                      refine ⟨gF2.over nS hSF2 (fun ps y => by cases y), tk' ++ [z], _, _, _, rfl, by rw [upd_same, es, List.length_append]; rfl, fun q => ?_, by rw [List.length_append, List.length_singleton]; omega, ?_⟩
                      · rw [hSf', Bool.eq_iff_iff, Bool.or_eq_true, decide_eq_true_iff, decide_eq_true_iff, decide_eq_true_iff, List.mem_append, List.mem_singleton]
                        exact ⟨fun y => y.imp id fun y => Sum.inr.inj y, fun y => y.imp id fun y => congrArg Sum.inr y⟩
                      · rw [hg1]
                        show (if keepD _ = true then (if nameOf _ ∈ tk' then _ else _) else _) = _
                        rw [if_pos hkd]
                        exact if_neg m
              · have hkd' : keepD dj = false := by simpa using hkd
                rw [hkd']
                refine iteT ?_
                refine ⟨_, rfl, _, rfl, (show 3 ≤ sizeLine by decide), fun p np => ?_⟩
                refine kF (.keep i k) p _ (out _ ?_) (gF2.new np) (gF2.free np) upd_same
                show (if keepD dj = true then _ else _) = _
                rw [if_neg hkd]
            · rintro σ F ⟨gF, tk', Sf', v4, v5, rfl, hSF, hSf', ltk', hg⟩
              refine ⟨gF, nS, tk', Sf', _, _, _, _, rfl, hSF, hSf', by rw [ly] at ltk'; omega, ?_⟩
              rw [ly, List.drop_of_length_le (Nat.le_refl _)] at hg
              rw [hf1]
              show (if teamD _ = true then (match goK i 0 tk ks with | .inl f => some f | .inr tk' => goT (i + 1) tk' _) else _) = _
              rw [if_pos ht, hg]
              rfl
      · have ht' : teamD di = false := by simpa using ht
        rw [ht']
        refine iteT ?_
        refine ⟨_, rfl, (show 2 ≤ sizeLine by decide), fun p np => ?_⟩
        refine kF (.team i) p _ ?_ (gG1.new np) (gG1.free np) upd_same
        rw [hf1]
        show (if teamD di = true then _ else _) = _
        rw [if_neg ht]
    · rintro σ G ⟨gG, nS, tk, Sf, v2, v3, v4, v5, rfl, hS, hSf, ltk, hf⟩
      rw [lx, List.drop_of_length_le (Nat.le_refl _)] at hf
      exact kN G hf gG
end
end My
/-! data that can be shown and laid, and boards of such -/
namespace My
open PySem PySem.Spec PyProof.Rows L2
theorem strOk_lo {z : Str} (h : Lo z) : PyData.strOk z = true := by
  unfold PyData.strOk
  rw [← Array.all_toList, List.all_eq_true]
  exact fun c hc => decide_eq_true (Nat.lt_trans (h c hc) (by decide))
structure Nic (m n : Nat) (d : PyData) : Prop where
  sh : Shw m d
  ly : d.canLay0 = true
  ln : d.shown.length ≤ n
  s1 : smallD d = true
  s2 : smallL d = true
theorem Nic.more {m n m' n' : Nat} {d : PyData} (h : Nic m n d) (a : m ≤ m') (b : n ≤ n') : Nic m' n' d := ⟨h.sh.more a, h.ly, Nat.le_trans h.ln b, h.s1, h.s2⟩
theorem nic_str {z : Str} (h : z.length ≤ 9) (lo : Lo z) : Nic 0 100 (.str z) := by
  refine ⟨shw_str z, by rw [PyData.canLay0]; exact strOk_lo lo, ?_, decide_eq_true (by omega), rfl⟩
  rw [PyData.shown]
  have := StrLaws.reprText_len z fun c hc => Nat.lt_trans (lo c hc) (by decide)
  omega
theorem nic_bool (b : Bool) : Nic 0 5 (.bool b) := by
  refine ⟨shw_bool b, by rw [PyData.canLay0], ?_, rfl, rfl⟩
  rw [PyData.shown]
  cases b <;> decide
def Ints : List Int := [-1, 0, 1, 2, 3, 4, 5, 6, 7, 8, 9, 10, 11, 12, 13, 14, 10000000000000000000]
theorem int_show : ∀ i ∈ Ints, (PyData.int i).shown.length ≤ 21 := by
  intro i h
  rw [PyData.shown]
  revert i h
  decide +kernel
theorem int_shw : ∀ i ∈ Ints, (PyData.int i).showable = true := by
  intro i h
  rw [PyData.showable]
  revert i h
  decide +kernel
theorem nic_int {i : Int} (h : i ∈ Ints) : Nic 0 21 (.int i) :=
  ⟨⟨int_shw i h, by rw [PyData.hasDict], by rw [PyData.depth]; exact Nat.le_refl _⟩, by rw [PyData.canLay0], int_show i h, rfl, rfl⟩
theorem ints_le {i : Int} (a : -1 ≤ i) (b : i ≤ 14) : i ∈ Ints := by
  have e : i = -1 ∨ i = 0 ∨ i = 1 ∨ i = 2 ∨ i = 3 ∨ i = 4 ∨ i = 5 ∨ i = 6 ∨ i = 7 ∨ i = 8 ∨ i = 9 ∨ i = 10 ∨ i = 11 ∨ i = 12 ∨ i = 13 ∨ i = 14 := by omega
  rcases e with e | e | e | e | e | e | e | e | e | e | e | e | e | e | e | e <;> (subst e; decide)
theorem layAll_of : ∀ {ds : List PyData}, (∀ d ∈ ds, d.canLay0 = true) → PyData.canLayAll0 ds = true
  | [], _ => by rw [PyData.canLayAll0]
  | d :: r, h => by
    rw [PyData.canLayAll0, h d List.mem_cons_self, layAll_of fun x hx => h x (List.mem_cons_of_mem _ hx)]
    rfl
theorem nic_list {m n c : Nat} {ds : List PyData} (h : ∀ d ∈ ds, Nic m n d) (l : ds.length ≤ c) (k : c ≤ 1000) : Nic (m + 1) ((n + 2) * c + 2) (.list ds) := by
  refine ⟨shw_list fun d hd => (h d hd).sh, by rw [PyData.canLay0]; exact layAll_of fun d hd => (h d hd).ly, list_shown (fun d hd => (h d hd).ln) l, rfl, ?_⟩
  show (decide (ds.length ≤ 1000) && ds.all smallD) = true
  rw [decide_eq_true (by omega), Bool.true_and, List.all_eq_true]
  exact fun d hd => (h d hd).s1
theorem nic_tup2 {m a b : Nat} {d e : PyData} (h1 : Nic m a d) (h2 : Nic m b e) : Nic (m + 1) (a + b + 7) (.tuple [d, e]) := by
  have key : ∀ (φ : PyData → Prop), φ d → φ e → ∀ x ∈ [d, e], φ x := fun φ p q x hx => by
    simp only [List.mem_cons, List.not_mem_nil, or_false] at hx
    rcases hx with e | e <;> rw [e] <;> assumption
  refine ⟨shw_tup (key _ h1.sh h2.sh), by rw [PyData.canLay0]; exact layAll_of (key _ h1.ly h2.ly), ?_, rfl, rfl⟩
  rw [PyData.shown]
  have z := tuple_le (PyData.shownAll [d, e])
  have l1 := h1.ln
  have l2 := h2.ln
  rw [PyData.shownAll, PyData.shownAll, PyData.shownAll, piled_cons, piled_cons, piled_nil] at z
  rw [PyData.shownAll, PyData.shownAll, PyData.shownAll]
  omega
theorem nic_tup4 {m a b c o : Nat} {d e f g : PyData} (h1 : Nic m a d) (h2 : Nic m b e) (h3 : Nic m c f) (h4 : Nic m o g) : Nic (m + 1) (a + b + c + o + 11) (.tuple [d, e, f, g]) := by
  have key : ∀ (φ : PyData → Prop), φ d → φ e → φ f → φ g → ∀ x ∈ [d, e, f, g], φ x := fun φ p q r s x hx => by
    simp only [List.mem_cons, List.not_mem_nil, or_false] at hx
    rcases hx with e | e | e | e <;> rw [e] <;> assumption
  refine ⟨shw_tup (key _ h1.sh h2.sh h3.sh h4.sh), by rw [PyData.canLay0]; exact layAll_of (key _ h1.ly h2.ly h3.ly h4.ly), ?_, rfl, rfl⟩
  rw [PyData.shown]
  have z := tuple_le (PyData.shownAll [d, e, f, g])
  have l1 := h1.ln
  have l2 := h2.ln
  have l3 := h3.ln
  have l4 := h4.ln
  rw [PyData.shownAll, PyData.shownAll, PyData.shownAll, PyData.shownAll, PyData.shownAll, piled_cons, piled_cons, piled_cons, piled_cons, piled_nil] at z
  rw [PyData.shownAll, PyData.shownAll, PyData.shownAll, PyData.shownAll, PyData.shownAll]
  omega
theorem Nic.shaped {m n : Nat} {d : PyData} (h : Nic m n d) (k : m ≤ 64) : SeqAt.shaped d = true := by
  unfold SeqAt.shaped
  rw [h.ly, decide_eq_true (Nat.le_trans h.sh.p k)]
  rfl
/-! ### keepers, teams, boards with things otherwise -/
def spn (k : Nat) : Str := ("zzqq" : Str) ++ ⟨#[97 + k]⟩
/-- a keeper as the law bends it: at most m things, its name a drawn one or one of the first n spare ones -/
def KpS (m n : Nat) (d : PyData) : Prop := ∃ z r w ws, d = .tuple [.str z, .int r, w, .list (ws.map PyData.str)] ∧ (Ok8 z ∨ ∃ k, k < n ∧ z = spn k) ∧ 1 ≤ r ∧ r ≤ 13 ∧ ((∃ b, w = .bool b) ∨ w = .int 1) ∧ W8 ws ∧ ws.length ≤ m
def TmS (m n : Nat) (d : PyData) : Prop := ∃ l ks, d = .tuple [l, .list ks] ∧ Nic 1 60 l ∧ ks.length ≤ 8 ∧ ∀ k ∈ ks, KpS m n k
structure SlS (m n : Nat) (ds : List PyData) : Prop where
  t3 : ds.length ≤ 3
  k8 : (ds.flatMap kidsD).length ≤ 8
  ok : ∀ d ∈ ds, TmS m n d
theorem flat_strs (ws : List Str) : (ws.map V.str).all flatV = true := by
  rw [List.all_eq_true]
  intro x hx
  obtain ⟨z, _, rfl⟩ := List.mem_map.mp hx
  rfl
theorem inV_strs (z : Str) (ws : List Str) : inV (.str z) (ws.map V.str) = decide (z ∈ ws) := by
  induction ws with
  | nil => rfl
  | cons a r ih =>
    unfold inV at ih ⊢
    rw [List.map_cons, List.any_cons, ih]
    show (a == z || decide (z ∈ r)) = decide (z ∈ a :: r)
    by_cases h : z = a
    · subst h
      rw [beq_self_eq_true, decide_eq_true List.mem_cons_self]
      rfl
    · have e : (a == z) = false := beq_eq_false_iff_ne.mpr fun q => h q.symm
      rw [e, Bool.false_or]
      by_cases m : z ∈ r
      · rw [decide_eq_true m, decide_eq_true (List.mem_cons_of_mem _ m)]
      · rw [decide_eq_false m, decide_eq_false fun q => (List.mem_cons.mp q).elim h m]
theorem units1 {k : Nat} {A : Around} (h : Room k A) : A.units + 65 < cLine := by
  have := h.un
  omega
/-! ### data of a heap that grows -/
section
variable {K : PySem.W.Frag} {H H' : Hp}
theorem dps_app {vs us : List V} {ds es : List PyData} (h : DpAll K H vs ds) (q : DpAll K H us es) : DpAll K H (vs ++ us) (ds ++ es) := by
  match vs, ds, h with
  | _, _, .nil => exact q
  | _, _, .cons a r => exact .cons a (dps_app r q)
theorem dps_take {vs : List V} {ds : List PyData} (h : DpAll K H vs ds) : ∀ i, DpAll K H (vs.take i) (ds.take i) := by
  intro i
  match vs, ds, h, i with
  | _, _, .nil, i => rw [List.take_nil, List.take_nil]; exact .nil
  | _, _, .cons a r, 0 => exact .nil
  | _, _, .cons a r, i + 1 => exact .cons a (dps_take r i)
theorem dps_drop {vs : List V} {ds : List PyData} (h : DpAll K H vs ds) : ∀ i, DpAll K H (vs.drop i) (ds.drop i) := by
  intro i
  match vs, ds, h, i with
  | _, _, .nil, i => rw [List.drop_nil, List.drop_nil]; exact .nil
  | _, _, .cons a r, 0 => exact .cons a r
  | _, _, .cons a r, i + 1 => exact dps_drop r i
theorem dps_one {v : V} {d : PyData} (h : Dp K H v d) : DpAll K H [v] [d] := .cons h .nil
theorem dps_rev {vs : List V} {ds : List PyData} (h : DpAll K H vs ds) : DpAll K H vs.reverse ds.reverse := by
  match vs, ds, h with
  | _, _, .nil => exact .nil
  | _, _, .cons a r =>
    rw [List.reverse_cons, List.reverse_cons]
    exact dps_app (dps_rev r) (dps_one a)
theorem cut_take {xs : List V} {k : Nat} : cutV xs none (some (k : Int)) = xs.take k := by
  unfold cutV
  rw [HT.sIx_none, HT.sIx_nat, List.drop_zero]
  show xs.take (min k xs.length - 0) = _
  rw [Nat.sub_zero, List.take_eq_take_iff]
  omega
theorem cut_drop {xs : List V} {k : Nat} : cutV xs (some (k : Int)) none = xs.drop k := by
  unfold cutV
  rw [HT.sIx_none, HT.sIx_nat]
  by_cases h : k ≤ xs.length
  · rw [Nat.min_eq_left h, List.take_of_length_le (by rw [List.length_drop]; omega)]
  · rw [Nat.min_eq_right (by omega), List.drop_of_length_le (Nat.le_refl _), List.drop_of_length_le (by omega), List.take_nil]
end
end My
/-! what mending does to the program's walk -/
namespace My
open PySem PySem.Spec PyProof.Rows L2
def rest2 (i : Nat) (ds : List PyData) : Sum Flt (List Str) → Option Flt
  | .inl f => some f
  | .inr tk => goT (i + 1) tk ds
theorem goT_team {i : Nat} {tk : List Str} {d : PyData} {ds : List PyData} (h : teamD d = true) : goT i tk (d :: ds) = rest2 i ds (goK i 0 tk (kidsD d)) := by
  show (if teamD d = true then _ else _) = _
  rw [if_pos h]
  cases goK i 0 tk (kidsD d) <;> rfl
theorem goT_not {i : Nat} {tk : List Str} {d : PyData} {ds : List PyData} (h : teamD d = false) : goT i tk (d :: ds) = some (.team i) := by
  show (if teamD d = true then _ else _) = _
  rw [h]
  rfl
theorem goK_not {t k : Nat} {tk : List Str} {d : PyData} {ds : List PyData} (h : keepD d = false) : goK t k tk (d :: ds) = .inl (.keep t k) := by
  show (if keepD d = true then _ else _) = _
  rw [h]
  rfl
theorem goK_in {t k : Nat} {tk : List Str} {d : PyData} {ds : List PyData} (h : keepD d = true) (m : nameOf d ∈ tk) : goK t k tk (d :: ds) = .inl (.twice t k) := by
  show (if keepD d = true then (if _ then _ else _) else _) = _
  rw [if_pos h, if_pos m]
theorem goK_out {t k : Nat} {tk : List Str} {d : PyData} {ds : List PyData} (h : keepD d = true) (m : nameOf d ∉ tk) : goK t k tk (d :: ds) = goK t (k + 1) (tk ++ [nameOf d]) ds := by
  show (if keepD d = true then (if _ then _ else _) else _) = _
  rw [if_pos h, if_neg m]
def tmF : Flt → Nat
  | .team t => t
  | .keep t _ => t
  | .twice t _ => t
/-- nought of a team's own, else one more than the keeper's place -/
def kpF : Flt → Nat
  | .team _ => 0
  | .keep _ k => k + 1
  | .twice _ k => k + 1
def passK : List Str → List PyData → Option (List Str)
  | tk, [] => some tk
  | tk, d :: ds => if keepD d = true ∧ nameOf d ∉ tk then passK (tk ++ [nameOf d]) ds else none
theorem goK_app {t : Nat} : ∀ {as bs : List PyData} {k : Nat} {tk tk' : List Str}, passK tk as = some tk' → goK t k tk (as ++ bs) = goK t (k + as.length) tk' bs
  | [], bs, k, tk, tk', h => by cases h; rfl
  | d :: as, bs, k, tk, tk', h => by
    unfold passK at h
    split at h
    · rename_i q
      rw [List.cons_append, goK_out q.1 q.2, goK_app h, List.length_cons]
      congr 1
      omega
    · cases h
theorem goK_inr {t : Nat} : ∀ {ks : List PyData} {k : Nat} {tk tk' : List Str}, goK t k tk ks = .inr tk' → passK tk ks = some tk'
  | [], k, tk, tk', h => by cases h; rfl
  | d :: ks, k, tk, tk', h => by
    unfold passK
    by_cases q : keepD d = true
    · by_cases m : nameOf d ∈ tk
      · rw [goK_in q m] at h
        cases h
      · rw [goK_out q m] at h
        rw [if_pos ⟨q, m⟩]
        exact goK_inr h
    · rw [goK_not (by simpa using q)] at h
      cases h
theorem goK_inl {t : Nat} : ∀ {ks : List PyData} {k : Nat} {tk : List Str} {f : Flt}, goK t k tk ks = .inl f →
    ∃ j tk', j < ks.length ∧ passK tk (ks.take j) = some tk' ∧ tmF f = t ∧ kpF f = k + j + 1
  | [], k, tk, f, h => by cases h
  | d :: ks, k, tk, f, h => by
    by_cases q : keepD d = true
    · by_cases m : nameOf d ∈ tk
      · rw [goK_in q m] at h
        cases h
        exact ⟨0, tk, Nat.succ_pos _, rfl, rfl, rfl⟩
      · rw [goK_out q m] at h
        obtain ⟨j, tk', jl, p, e1, e2⟩ := goK_inl h
        refine ⟨j + 1, tk', Nat.succ_lt_succ jl, ?_, e1, by omega⟩
        rw [List.take_succ_cons]
        unfold passK
        rw [if_pos ⟨q, m⟩]
        exact p
    · rw [goK_not (by simpa using q)] at h
      cases h
      exact ⟨0, tk, Nat.succ_pos _, rfl, rfl, rfl⟩
def passT : List Str → List PyData → Option (List Str)
  | tk, [] => some tk
  | tk, d :: ds => if teamD d = true then (match passK tk (kidsD d) with
      | none => none
      | some tk' => passT tk' ds) else none
theorem goK_of {t k : Nat} {tk tk' : List Str} {ks : List PyData} (h : passK tk ks = some tk') : goK t k tk ks = .inr tk' := by
  have q := goK_app (t := t) (k := k) (bs := []) h
  rw [List.append_nil] at q
  exact q
theorem goT_app : ∀ {as bs : List PyData} {i : Nat} {tk tk' : List Str}, passT tk as = some tk' → goT i tk (as ++ bs) = goT (i + as.length) tk' bs
  | [], bs, i, tk, tk', h => by cases h; rfl
  | d :: as, bs, i, tk, tk', h => by
    unfold passT at h
    split at h
    · rename_i q
      split at h
      · cases h
      · rename_i t2 e
        rw [List.cons_append, goT_team q, goK_of e]
        show goT (i + 1) t2 (as ++ bs) = _
        rw [goT_app h, List.length_cons]
        congr 1
        omega
    · cases h
theorem goT_some : ∀ {ds : List PyData} {i : Nat} {tk : List Str} {f : Flt}, goT i tk ds = some f → ∃ j tk' d, ds[j]? = some d ∧ passT tk (ds.take j) = some tk' ∧ tmF f = i + j ∧
    ((teamD d = false ∧ kpF f = 0) ∨ (teamD d = true ∧ goK (i + j) 0 tk' (kidsD d) = .inl f))
  | [], i, tk, f, h => by cases h
  | d :: ds, i, tk, f, h => by
    by_cases q : teamD d = true
    · rw [goT_team q] at h
      cases e : goK i 0 tk (kidsD d) with
      | inl f' =>
        rw [e] at h
        cases h
        obtain ⟨_, _, _, _, e1, _⟩ := goK_inl e
        exact ⟨0, tk, d, rfl, rfl, e1, .inr ⟨q, e⟩⟩
      | inr t2 =>
        rw [e] at h
        obtain ⟨j, tk', d', e1, e2, e3, e4⟩ := goT_some (show goT (i + 1) t2 ds = some f from h)
        refine ⟨j + 1, tk', d', e1, ?_, by omega, ?_⟩
        · rw [List.take_succ_cons]
          unfold passT
          rw [if_pos q, goK_inr e]
          exact e2
        · rcases e4 with z | ⟨z1, z2⟩
          · exact .inl z
          · refine .inr ⟨z1, ?_⟩
            have e : i + (j + 1) = i + 1 + j := by omega
            rw [e]
            exact z2
    · rw [goT_not (by simpa using q)] at h
      cases h
      exact ⟨0, tk, d, rfl, rfl, rfl, .inl ⟨by simpa using q, rfl⟩⟩
/-- all that a walk took are names -/
theorem passK_mem : ∀ {ks : List PyData} {tk tk' : List Str}, passK tk ks = some tk' → ∀ x ∈ tk', x ∈ tk ∨ ∃ d ∈ ks, nameOf d = x
  | [], tk, tk', h, x, hx => by cases h; exact .inl hx
  | d :: ks, tk, tk', h, x, hx => by
    unfold passK at h
    split at h
    · rcases passK_mem h x hx with z | ⟨d', h1, h2⟩
      · rcases List.mem_append.mp z with z | z
        · exact .inl z
        · exact .inr ⟨d, List.mem_cons_self, (List.mem_singleton.mp z).symm⟩
      · exact .inr ⟨d', List.mem_cons_of_mem _ h1, h2⟩
    · cases h
theorem passT_mem : ∀ {ds : List PyData} {tk tk' : List Str}, passT tk ds = some tk' → ∀ x ∈ tk', x ∈ tk ∨ ∃ d ∈ ds.flatMap kidsD, nameOf d = x
  | [], tk, tk', h, x, hx => by cases h; exact .inl hx
  | d :: ds, tk, tk', h, x, hx => by
    unfold passT at h
    split at h
    · split at h
      · cases h
      · rename_i t2 e
        rcases passT_mem h x hx with z | ⟨d', h1, h2⟩
        · rcases passK_mem e x z with z | ⟨d', h1, h2⟩
          · exact .inl z
          · exact .inr ⟨d', by rw [List.flatMap_cons]; exact List.mem_append_left _ h1, h2⟩
        · exact .inr ⟨d', by rw [List.flatMap_cons]; exact List.mem_append_right _ h1, h2⟩
    · cases h
/-- a later place -/
def Later (f g : Flt) : Prop := tmF f < tmF g ∨ (tmF f = tmF g ∧ kpF f < kpF g)
def frD (z : Str) : PyData := .tuple [.str z, .int 1, .bool true, .list []]
theorem fr_keep {z : Str} (h : nameS z = true) : keepD (frD z) = true := by
  show keep4 (.str z) (.int 1) (.bool true) (.list []) = true
  unfold keep4
  rw [show nameD (.str z) = true from h]
  decide
section
variable {ds : List PyData} {f : Flt}
/-- what is known of a fault: its team, the teams ahead pass, .. -/
theorem fault_at (h : faultD ds = some f) : ∃ tk d, ds[tmF f]? = some d ∧ passT [] (ds.take (tmF f)) = some tk ∧
    ((teamD d = false ∧ kpF f = 0) ∨ (teamD d = true ∧ ∃ j tk2, kpF f = j + 1 ∧ j < (kidsD d).length ∧ passK tk ((kidsD d).take j) = some tk2)) := by
  obtain ⟨j, tk, d, e1, e2, e3, e4⟩ := goT_some (show goT 0 [] ds = some f from h)
  rw [Nat.zero_add] at e3 e4
  rw [← e3] at e1 e2 e4
  refine ⟨tk, d, e1, e2, ?_⟩
  rcases e4 with z | ⟨z1, z2⟩
  · exact .inl z
  · obtain ⟨j2, tk2, jl, p, _, e⟩ := goK_inl z2
    exact .inr ⟨z1, j2, tk2, by omega, jl, p⟩
theorem fault_ahead (h : faultD ds = some f) : faultD (ds.take (tmF f)) = none := by
  obtain ⟨tk, d, e1, e2, _⟩ := fault_at h
  have q := goT_app (i := 0) (bs := []) e2
  rw [List.append_nil] at q
  exact q
theorem fault_more (h : faultD ds = some f) (more : List PyData) : faultD (ds ++ more) = some f := by
  obtain ⟨j, tk, d, e1, e2, e3, e4⟩ := goT_some (show goT 0 [] ds = some f from h)
  obtain ⟨jl, rfl⟩ := List.getElem?_eq_some_iff.mp e1
  have split : ds = ds.take j ++ (ds[j] :: ds.drop (j + 1)) := by rw [← List.drop_eq_getElem_cons jl, List.take_append_drop]
  have lj : (ds.take j).length = j := by rw [List.length_take]; omega
  have e : ds ++ more = ds.take j ++ (ds[j] :: (ds.drop (j + 1) ++ more)) := by
    rw [← List.cons_append, ← List.append_assoc, ← split]
  show goT 0 [] (ds ++ more) = _
  have h' : goT 0 [] ds = some f := h
  rw [split, goT_app e2] at h'
  rw [e, goT_app e2]
  rw [lj] at h' ⊢
  rcases e4 with ⟨z, _⟩ | ⟨z1, z2⟩
  · rw [goT_not z] at h' ⊢
    exact h'
  · rw [goT_team z1]
    rw [z2]
    rfl
theorem fault_cut {l : PyData} {ks : List PyData} {j : Nat} (h : faultD ds = some f) (e : ds[tmF f]? = some (.tuple [l, .list ks])) (hj : kpF f = j + 1) :
    faultD (ds.take (tmF f) ++ [.tuple [.int 0, .list (ks.take j)]]) = none := by
  obtain ⟨tk, d, e1, e2, e4⟩ := fault_at h
  rw [e] at e1
  cases e1
  rcases e4 with ⟨_, z⟩ | ⟨_, j2, tk2, e5, _, p⟩
  · omega
  · obtain rfl : j2 = j := by omega
    show goT 0 [] _ = none
    rw [goT_app e2]
    have tt : teamD (.tuple [.int 0, .list (ks.take j2)]) = true := by
      show decide ((0 : Int) ≤ 0 ∧ (0 : Int) ≤ ((ks.take j2).length : Nat)) = true
      exact decide_eq_true ⟨Int.le_refl _, by omega⟩
    rw [goT_team tt]
    have p' : passK tk (kidsD (.tuple [.int 0, .list (ks.take j2)])) = some tk2 := p
    rw [goK_of p']
    rfl
theorem goT_later {i : Nat} {tk : List Str} {es : List PyData} {g : Flt} (h : goT i tk es = some g) : i ≤ tmF g := by
  obtain ⟨j, _, _, _, _, e, _⟩ := goT_some h
  omega
theorem goK_kp {t k : Nat} {tk : List Str} {ks : List PyData} {g : Flt} (h : goK t k tk ks = .inl g) : tmF g = t ∧ k < kpF g := by
  obtain ⟨j, _, _, _, e1, e2⟩ := goK_inl h
  exact ⟨e1, by omega⟩
/-- a team mended -/
theorem mend_team {l : PyData} {ks : List PyData} {g : Flt} (h : faultD ds = some f) (e : ds[tmF f]? = some (.tuple [l, .list ks])) (h0 : kpF f = 0)
    (hg : faultD (ds.take (tmF f) ++ [.tuple [.int 0, .list ks]] ++ ds.drop (tmF f + 1)) = some g) : Later f g := by
  obtain ⟨tk, d, e1, e2, e4⟩ := fault_at h
  have tl := (List.getElem?_eq_some_iff.mp e).1
  have lj : (ds.take (tmF f)).length = tmF f := by rw [List.length_take]; omega
  have hg : goT 0 [] (ds.take (tmF f) ++ [.tuple [.int 0, .list ks]] ++ ds.drop (tmF f + 1)) = some g := hg
  rw [List.append_assoc, goT_app e2, lj, Nat.zero_add] at hg
  have tt : teamD (.tuple [.int 0, .list ks]) = true := by
    show decide ((0 : Int) ≤ 0 ∧ (0 : Int) ≤ (ks.length : Nat)) = true
    exact decide_eq_true ⟨Int.le_refl _, by omega⟩
  rw [List.singleton_append, goT_team tt] at hg
  cases eK : goK (tmF f) 0 tk (kidsD (.tuple [.int 0, .list ks])) with
  | inl g' =>
    rw [eK] at hg
    cases hg
    obtain ⟨q1, q2⟩ := goK_kp eK
    exact .inr ⟨q1.symm, by omega⟩
  | inr t2 =>
    rw [eK] at hg
    have q := goT_later (show goT (tmF f + 1) t2 _ = some g from hg)
    exact .inl (by omega)
/-- a keeper mended -/
theorem mend_keep {l : PyData} {ks : List PyData} {g : Flt} {j : Nat} {z : Str} (h : faultD ds = some f) (e : ds[tmF f]? = some (.tuple [l, .list ks])) (hj : kpF f = j + 1) (nz : nameS z = true)
    (fresh : ∀ d ∈ ds.flatMap kidsD, nameOf d ≠ z) (hg : faultD (ds.take (tmF f) ++ [.tuple [l, .list (ks.take j ++ [frD z] ++ ks.drop (j + 1))]] ++ ds.drop (tmF f + 1)) = some g) : Later f g := by
  obtain ⟨tk, d, e1, e2, e4⟩ := fault_at h
  rw [e] at e1
  cases e1
  have tl := (List.getElem?_eq_some_iff.mp e).1
  have lj : (ds.take (tmF f)).length = tmF f := by rw [List.length_take]; omega
  rcases e4 with ⟨_, z0⟩ | ⟨tD, j2, tk2, e5, jl, p⟩
  · omega
  · obtain rfl : j2 = j := by omega
    have jl : j2 < ks.length := jl
    have p : passK tk (ks.take j2) = some tk2 := p
    have hg : goT 0 [] (ds.take (tmF f) ++ [.tuple [l, .list (ks.take j2 ++ [frD z] ++ ks.drop (j2 + 1))]] ++ ds.drop (tmF f + 1)) = some g := hg
    rw [List.append_assoc, goT_app e2, lj, Nat.zero_add] at hg
    have len : (ks.take j2 ++ [frD z] ++ ks.drop (j2 + 1)).length = ks.length := by
      rw [List.length_append, List.length_append, List.length_take, List.length_drop]
      show _ + 1 + _ = _
      omega
    have tt : teamD (.tuple [l, .list (ks.take j2 ++ [frD z] ++ ks.drop (j2 + 1))]) = true := by
      cases l with
      | int i =>
        show decide ((0 : Int) ≤ i ∧ i ≤ ((ks.take j2 ++ [frD z] ++ ks.drop (j2 + 1)).length : Nat)) = true
        rw [len]
        exact tD
      | _ => exact absurd tD (by simp [teamD])
    rw [List.singleton_append, goT_team tt] at hg
    have kk : kidsD (.tuple [l, .list (ks.take j2 ++ [frD z] ++ ks.drop (j2 + 1))]) = ks.take j2 ++ (frD z :: ks.drop (j2 + 1)) := by
      show ks.take j2 ++ [frD z] ++ ks.drop (j2 + 1) = _
      rw [List.append_assoc]
      rfl
    have ljk : (ks.take j2).length = j2 := by rw [List.length_take]; omega
    have out : nameOf (frD z) ∉ tk2 := fun m => by
      have m : z ∈ tk2 := m
      rcases passK_mem p z m with q | ⟨d', q1, q2⟩
      · rcases passT_mem e2 z q with q | ⟨d', q1, q2⟩
        · cases q
        · refine fresh d' ?_ q2
          obtain ⟨y, y1, y2⟩ := List.mem_flatMap.mp q1
          exact List.mem_flatMap.mpr ⟨y, List.mem_of_mem_take y1, y2⟩
      · exact fresh d' (List.mem_flatMap.mpr ⟨_, List.mem_of_getElem? e, List.mem_of_mem_take q1⟩) q2
    rw [kk, goK_app p, ljk, goK_out (fr_keep nz) out] at hg
    cases eK : goK (tmF f) (0 + j2 + 1) (tk2 ++ [nameOf (frD z)]) (ks.drop (j2 + 1)) with
    | inl g' =>
      rw [eK] at hg
      cases hg
      obtain ⟨q1, q2⟩ := goK_kp eK
      exact .inr ⟨q1.symm, by omega⟩
    | inr t2 =>
      rw [eK] at hg
      have q := goT_later (show goT (tmF f + 1) t2 _ = some g from hg)
      exact .inl (by omega)
end
/-! ### places in one row -/
def lens (ds : List PyData) : List Nat := ds.map fun d => (kidsD d).length + 1
def posF (ls : List Nat) (f : Flt) : Nat := (ls.take (tmF f)).sum + kpF f
theorem lens_sum : ∀ ds : List PyData, (lens ds).sum = ds.length + (ds.flatMap kidsD).length
  | [] => rfl
  | d :: r => by
    have ih := lens_sum r
    unfold lens at ih ⊢
    rw [List.map_cons, List.sum_cons, ih, List.length_cons, List.flatMap_cons, List.length_append]
    omega
theorem sum_take_le {ls : List Nat} : ∀ {i j : Nat}, i ≤ j → (ls.take i).sum ≤ (ls.take j).sum := by
  induction ls with
  | nil => intro i j _; simp
  | cons x r ih =>
    intro i j h
    cases i with
    | zero => simp
    | succ i =>
      cases j with
      | zero => omega
      | succ j =>
        rw [List.take_succ_cons, List.take_succ_cons, List.sum_cons, List.sum_cons]
        have := ih (i := i) (j := j) (by omega)
        omega
theorem sum_take_succ {ls : List Nat} {i x : Nat} (h : ls[i]? = some x) : (ls.take (i + 1)).sum = (ls.take i).sum + x := by
  rw [List.take_succ, h, List.sum_append]
  simp
/-- a fault's place is one of those that there are -/
theorem kp_lt {ds : List PyData} {f : Flt} (h : faultD ds = some f) : ∃ n, (lens ds)[tmF f]? = some n ∧ kpF f < n := by
  obtain ⟨tk, d, e1, _, e4⟩ := fault_at h
  refine ⟨(kidsD d).length + 1, by unfold lens; rw [List.getElem?_map, e1]; rfl, ?_⟩
  rcases e4 with ⟨_, z⟩ | ⟨_, j, _, z, jl, _⟩ <;> omega
theorem pos_lt {ds : List PyData} {f : Flt} (h : faultD ds = some f) : posF (lens ds) f < (lens ds).sum := by
  obtain ⟨n, e, k⟩ := kp_lt h
  have s := sum_take_succ e
  have t := sum_take_le (ls := lens ds) (i := tmF f + 1) (j := (lens ds).length) (List.getElem?_eq_some_iff.mp e).1
  rw [List.take_of_length_le (Nat.le_refl _)] at t
  unfold posF
  omega
theorem pos_mono {ds : List PyData} {f g : Flt} (h : faultD ds = some f) (l : Later f g) : posF (lens ds) f < posF (lens ds) g := by
  obtain ⟨n, e, k⟩ := kp_lt h
  have s := sum_take_succ e
  unfold posF
  rcases l with l | ⟨l1, l2⟩
  · have t := sum_take_le (ls := lens ds) (i := tmF f + 1) (j := tmF g) l
    omega
  · rw [← l1]
    omega
theorem lens_put {ds : List PyData} {t : Nat} {d d' : PyData} (e : ds[t]? = some d) (h : (kidsD d').length = (kidsD d).length) : lens (ds.take t ++ [d'] ++ ds.drop (t + 1)) = lens ds := by
  obtain ⟨tl, rfl⟩ := List.getElem?_eq_some_iff.mp e
  have split : ds = ds.take t ++ (ds[t] :: ds.drop (t + 1)) := by rw [← List.drop_eq_getElem_cons tl, List.take_append_drop]
  have e2 : lens ds = lens (ds.take t ++ (ds[t] :: ds.drop (t + 1))) := congrArg lens split
  rw [e2]
  unfold lens
  rw [List.map_append, List.map_append, List.map_append, List.map_cons, List.append_assoc, List.map_cons, List.map_nil, h]
  rfl
/-! ### spare names -/
theorem spn_name : ∀ k, k < 20 → nameS (spn k) = true := by decide +kernel
theorem spn_five : ∀ k, k < 20 → (spn k).length = 5 ∧ (spn k).cps.toList[0]? = some 122 := by decide +kernel
theorem spn_inj : ∀ i, i < 20 → ∀ j, j < 20 → spn i = spn j → i = j := by decide +kernel
theorem spn_fresh {m n : Nat} {d : PyData} (h : KpS m n d) (l : n < 20) : nameOf d ≠ spn n := by
  obtain ⟨z, r, w, ws, rfl, hz, _⟩ := h
  show z ≠ spn n
  rcases hz with z8 | ⟨k, kn, rfl⟩
  · intro e
    obtain ⟨a, b⟩ := spn_five n l
    rw [e] at z8
    exact z8.nz a b
  · intro e
    have := spn_inj k (by omega) n l e
    omega
end My
namespace My
open PySem PySem.Spec PyProof.Rows L2
theorem draw_mod {x c : Int} (h0 : 0 ≤ x) (h : 0 < c) : 0 ≤ x.fmod c ∧ x.fmod c < c := by
  rw [Int.fmod_eq_emod_of_nonneg x (by omega)]
  exact ⟨Int.emod_nonneg x (by omega), Int.emod_lt_of_pos x h⟩
theorem draw_div {x c : Int} (h0 : 0 ≤ x) (h : 0 < c) : 0 ≤ x.fdiv c := by
  rw [Int.fdiv_eq_ediv_of_nonneg x (by omega)]
  exact Int.ediv_nonneg h0 (by omega)
section
variable {P : Program} {w : World} {K : PySem.W.Frag} {mg : Str → Option Value} {base : Heap} {A : Ad}
theorem ok_draw (T : Txt K mg A) : FnOk P w K mg base CX0 1 A.f_draw A.d_draw P_draw spDraw := by
  refine T.F_draw.ok sc_draw (fun vs H Q E h => ?_) (fun cdv A' outer s H vs Q E hr h => ?_)
  · obtain ⟨b, l, c, rfl, _⟩ := h
    rfl
  · obtain ⟨b, l, c, rfl, B, c0, c1, k⟩ := h
    refine ⟨_, (pss_cons (ps_while PassesOwn.never (PW.pt (pw_and (pt_cmpR op_lt (pe_ix (ix_listK (K := K) rfl) (pv 0) pe_int (fun _ _ => rfl)) (pe_callB (len_seqK (K := K) rfl) (by rfl) T.n_len PySem.boot_len (pa_cons (pe_ix (ix_listK (K := K) rfl) (pv 0) pe_int (fun _ _ => rfl)) pa_nil)) (nomark _)) (pw_and1 (pt_cmpR op_eq (pe_ix (ix_listK (K := K) rfl) (pe_ix (ix_listK (K := K) rfl) (pv 0) pe_int (fun _ _ => rfl)) (pe_ix (ix_listK (K := K) rfl) (pv 0) pe_int (fun _ _ => rfl)) (fun _ _ => rfl)) pe_int (nomark _)))))
      (pss_one (ps_asg (pe_op op_add (pe_ix (ix_listK (K := K) rfl) (pv 0) pe_int (fun _ _ => rfl)) pe_int) (pg_sub (pv 0) pe_int set_list))))
    (pss_cons (ps_if (pt_cmpR op_lt (pe_ix (ix_listK (K := K) rfl) (pv 0) pe_int (fun _ _ => rfl)) (pe_callB (len_seqK (K := K) rfl) (by rfl) T.n_len PySem.boot_len (pa_cons (pe_ix (ix_listK (K := K) rfl) (pv 0) pe_int (fun _ _ => rfl)) pa_nil)) (nomark _))
      (pss_cons (ps_set (i := 2) sc_draw.nd rfl (Or.inl rfl) (pe_ix (ix_listK (K := K) rfl) (pe_ix (ix_listK (K := K) rfl) (pv 0) pe_int (fun _ _ => rfl)) (pe_ix (ix_listK (K := K) rfl) (pv 0) pe_int (fun _ _ => rfl)) (fun _ _ => rfl)))
      (pss_cons (ps_asg (pe_op op_fdivN (pv 2) (pv 1)) (pg_sub (pe_ix (ix_listK (K := K) rfl) (pv 0) pe_int (fun _ _ => rfl)) (pe_ix (ix_listK (K := K) rfl) (pv 0) pe_int (fun _ _ => rfl)) set_list))
      (pss_one (ps_ret (pe_op op_modN (pv 2) (pv 1))))))
      pss_nil)
    (pss_cons (ps_asg (pe_op op_add (pe_ix (ix_listK (K := K) rfl) (pv 0) pe_int (fun _ _ => rfl)) pe_int) (pg_sub (pv 0) pe_int set_list))
    (pss_cons (ps_asg (pe_op op_modN (pe_op op_add (pe_op op_add (pe_op op_add (pe_op op_powW (pe_ix (ix_listK (K := K) rfl) (pv 0) pe_int (fun _ _ => rfl)) pe_int) (pe_op op_mul pe_int (pe_ix (ix_listK (K := K) rfl) (pv 0) pe_int (fun _ _ => rfl)))) (pe_op op_mul pe_int (pe_ix (ix_listK (K := K) rfl) (pv 0) pe_int (fun _ _ => rfl)))) pe_int) (pe_op op_sub (pe_op op_powW pe_int pe_int) pe_int)) (pg_sub (pv 0) pe_int set_list))
    (pss_one (ps_ret (pe_op op_modN (pe_op op_fdivN (pe_ix (ix_listK (K := K) rfl) (pv 0) pe_int (fun _ _ => rfl)) pe_int) (pv 1)))))))), ?_⟩
    obtain ⟨⟨i0, m, n, hb, m0, m1⟩, ⟨xs, hl, hx⟩, ne⟩ := B
    refine ⟨fun j σ H1 => ∃ i : Nat, j = xs.length - i ∧ σ = [some (.ref b), some (.int c), none] ∧
      H1 b = some (.lst [.ref l, .int i, .int m, .int n]) ∧ H1 l = some (.lst (xs.map V.int)) ∧ Ext b l H H1,
      ⟨_, i0, rfl, rfl, hb, hl, Ext.refl _ _ _⟩, ?_⟩
    rintro j σ H1 ⟨i, rfl, rfl, hb1, hl1, x1⟩
    -- bag[1] < len(bag[0])
    refine ⟨_, rfl, _, _, _, _, rfl, rfl, SqL.of hb1, rfl, _, rfl, _, _, _, _, rfl, rfl, SqL.of hb1, rfl, l, _, rfl, .inl (SqL.of hl1), _, _, rfl, rfl, _, rfl, ?_⟩
    have li : (xs.map V.int).length = xs.length := List.length_map _
    by_cases lt : i < xs.length
    · obtain ⟨x, hxi⟩ : ∃ x, xs[i]? = some x := ⟨xs[i], List.getElem?_eq_getElem lt⟩
      have x0 : 0 ≤ x := hx x (List.mem_of_getElem? hxi)
      have it : (xs.map V.int)[i]? = some (V.int x) := map_at hxi
      rw [decide_eq_true (show (i : Int) < ((xs.map V.int).length : Nat) by rw [li]; omega)]
      refine iteT ?_
      refine ⟨_, rfl, _, _, _, _, rfl, rfl, SqL.of hb1, rfl, _, rfl, _, _, _, _, rfl, rfl, SqL.of hb1, rfl, l, _, _, _, rfl, rfl, SqL.of hl1, atI_nat it, rfl, _, rfl, ?_⟩
      by_cases z : x = 0
      · subst z
        refine iteT ?_
        refine ⟨fun σ2 H2 => σ2 = [some (.ref b), some (.int c), none] ∧ H2 b = some (.lst [.ref l, .int ((i + 1 : Nat) : Int), .int m, .int n]) ∧ H2 l = some (.lst (xs.map V.int)) ∧ Ext b l H H2, ?_, ?_⟩
        · rintro σ2 H2 ⟨e, h2, h3, h4⟩
          exact ⟨_, by omega, i + 1, rfl, e, h2, h3, h4⟩
        · refine ⟨_, rfl, _, _, _, _, rfl, rfl, SqL.of hb1, rfl, _, _, rfl, rfl, _, rfl, _, _, _, _, rfl, rfl, hb1, rfl, ?_⟩
          exact ⟨rfl, upd_same, by rw [upd_ne ne.symm]; exact hl1, x1.trans Ext.at_b⟩
      · have z' : decide (V.int x = V.int 0) = false := decide_eq_false fun e => z (V.int.inj e)
        rw [z']
        refine iteF ?_
        -- a digit
        refine ⟨_, rfl, _, _, _, _, rfl, rfl, SqL.of hb1, rfl, _, rfl, _, _, _, _, rfl, rfl, SqL.of hb1, rfl, l, _, rfl, .inl (SqL.of hl1), _, _, rfl, rfl, _, rfl, ?_⟩
        rw [decide_eq_true (show (i : Int) < ((xs.map V.int).length : Nat) by rw [li]; omega)]
        refine iteT ?_
        refine ⟨_, rfl, _, _, _, _, rfl, rfl, SqL.of hb1, rfl, _, rfl, _, _, _, _, rfl, rfl, SqL.of hb1, rfl, l, _, _, _, rfl, rfl, SqL.of hl1, atI_nat it, ?_⟩
        refine ⟨_, rfl, _, rfl, x, c, rfl, rfl, ⟨by omega, by omega⟩, ?_⟩
        refine ⟨_, rfl, _, _, _, _, rfl, rfl, SqL.of hb1, rfl, _, rfl, _, _, _, _, rfl, rfl, SqL.of hb1, rfl, l, _, (i : Int), i, rfl, rfl, hl1, by unfold ixN; rw [li]; simp; omega, ?_⟩
        refine ⟨_, rfl, _, rfl, x, c, rfl, rfl, by omega, ?_⟩
        obtain ⟨r0, r1⟩ := draw_mod x0 c0
        refine k _ _ r0 r1 ⟨⟨i, m, n, by rw [upd_ne ne]; exact hb1, m0, m1⟩, ⟨xs.set i (x.fdiv c), ?_, ?_⟩, ne⟩ (x1.trans Ext.at_l)
        · rw [upd_same, List.map_set]
        · intro y hy
          rcases List.mem_or_eq_of_mem_set hy with hy | hy
          · exact hx y hy
          · rw [hy]
            exact draw_div x0 c0
    · rw [decide_eq_false (show ¬ (i : Int) < ((xs.map V.int).length : Nat) by rw [li]; omega)]
      refine iteF ?_
      refine iteF ?_
      -- stirred
      refine ⟨_, rfl, _, _, _, _, rfl, rfl, SqL.of hb1, rfl, _, rfl, _, _, _, _, rfl, rfl, SqL.of hb1, rfl, l, _, rfl, .inl (SqL.of hl1), _, _, rfl, rfl, _, rfl, ?_⟩
      rw [decide_eq_false (show ¬ (i : Int) < ((xs.map V.int).length : Nat) by rw [li]; omega)]
      refine iteF ?_
      refine ⟨_, rfl, _, _, _, _, rfl, rfl, SqL.of hb1, rfl, _, _, rfl, rfl, _, rfl, _, _, _, _, rfl, rfl, hb1, rfl, ?_⟩
      have hb2 : (upd H1 b (.lst ([V.ref l, .int i, .int m, .int n].set 3 (.int (n + 1))))) b = some (.lst [V.ref l, .int i, .int m, .int (n + 1)]) := upd_same
      have ms : (Builtin.Int.intBits m : Int) * 3 ≤ 2 ^ 27 := by
        have q : Builtin.Int.intBits m ≤ 64 := by
          unfold Builtin.Int.intBits
          split
          · decide
          · have z : m.natAbs.log2 < 64 := PySem.Flt.log2_lt_of (by decide) (by omega)
            omega
        omega
      refine ⟨_, rfl, _, _, _, _, rfl, rfl, SqL.of hb2, rfl, m, 3, rfl, rfl, ⟨by decide, ms⟩, ?_⟩
      refine ⟨_, rfl, _, _, _, _, rfl, rfl, SqL.of hb2, rfl, _, m, rfl, rfl, .inl ⟨by decide, by decide⟩, _, _, rfl, rfl, ?_⟩
      refine ⟨_, rfl, _, _, _, _, rfl, rfl, SqL.of hb2, rfl, _, _, rfl, rfl, .inl ⟨by decide, by decide⟩, _, _, rfl, rfl, ?_⟩
      refine ⟨_, _, rfl, rfl, 2, 61, rfl, rfl, ⟨by decide, by decide⟩, _, _, rfl, rfl, _, _, rfl, rfl, (show (2 : Int) ^ (61 : Int).toNat - 1 ≠ 0 by decide), ?_⟩
      refine ⟨_, rfl, _, _, _, _, rfl, rfl, hb2, rfl, ?_⟩
      have hb3 : ∀ v, (upd (upd H1 b (.lst ([V.ref l, .int i, .int m, .int n].set 3 (.int (n + 1))))) b (.lst ([V.ref l, .int i, .int m, .int (n + 1)].set 2 v))) b = some (.lst [V.ref l, .int i, v, .int (n + 1)]) := fun v => upd_same
      refine ⟨_, rfl, _, _, _, _, rfl, rfl, SqL.of (hb3 _), rfl, _, _, rfl, rfl, ⟨by decide, by decide⟩, _, rfl, _, c, rfl, rfl, by omega, ?_⟩
      have big : (2 : Int) ^ (61 : Int).toNat - 1 = 2305843009213693951 := by decide
      have s0 : ∀ z : Int, 0 ≤ z.fmod ((2 : Int) ^ (61 : Int).toNat - 1) ∧ z.fmod ((2 : Int) ^ (61 : Int).toNat - 1) < 2305843009213693951 := fun z => by
        rw [big, Int.fmod_eq_emod_of_nonneg z (by decide)]
        exact ⟨Int.emod_nonneg z (by decide), Int.emod_lt_of_pos z (by decide)⟩
      obtain ⟨q0, q1⟩ := s0 (m ^ (3 : Int).toNat + 48271 * m + 2039 * (n + 1) + 7)
      obtain ⟨r0, r1⟩ := draw_mod (draw_div q0 (show (0 : Int) < 1024 by decide)) c0
      refine k _ _ r0 r1 ⟨⟨i, _, n + 1, hb3 _, q0, q1⟩, ⟨xs, ?_, hx⟩, ne⟩ ((x1.trans Ext.at_b).trans Ext.at_b)
      rw [upd_ne ne.symm, upd_ne ne.symm]
      exact hl1
end
end My
namespace My
open PySem PySem.Spec PyProof.Rows L2
section
variable {P : Program} {w : World} {K : PySem.W.Frag} {mg : Str → Option Value} {base : Heap} {A : Ad}
theorem ok_bag (T : Txt K mg A) : FnOk P w K mg base CX0 1 A.f_bag A.d_bag P_bag (spBag K) := by
  refine T.F_bag.ok sc_bag (fun vs H Q E h => ?_) (fun cdv A' outer s H vs Q E hr h => ?_)
  · obtain ⟨a, ns, rfl, _⟩ := h
    rfl
  · obtain ⟨a, ns, rfl, hS, n63, k⟩ := h
    refine ⟨_, (pss_cons (ps_set (i := 1) sc_bag.nd rfl (Or.inl rfl) pe_int)
    (pss_cons (ps_for PassesOwn.never rfl (pi_listK (K := K) rfl (pe_slice (sl_listK (K := K) rfl) (pv 0) po_none (po_some pe_int))) (pg_name (i := 2) sc_bag.nd rfl (Or.inl rfl))
      (pss_one (ps_set (i := 1) sc_bag.nd rfl (Or.inl rfl) (pe_op op_modN (pe_op op_add (pe_op op_add (pe_op op_mul (pv 1) pe_int) (pe_op op_modN (pv 2) pe_int)) pe_int) (pe_op op_sub (pe_op op_powW pe_int pe_int) pe_int)))))
    (pss_one (ps_ret (pe_lst (pa_cons (pe_lc (own := [("cell", 2)]) (tt := tYes) (g := (gName 2)) rfl sc_bag.nd (pi_listK (K := K) rfl (pe_slice (sl_listK (K := K) rfl) (pv 0) po_none (po_some pe_int))) (blkOk_by (own := [("cell", 2)]) (N := N_bag) (sc := defScope s_bag) (by decide +kernel)) (fun _ _ _ _ _ => (pg_name (i := 2) sc_bag.nd rfl (Or.inl rfl))) (fun _ _ _ _ _ => pts_nil) (fun _ _ _ _ _ => by exact (pe_op op_modN (pe_callB call_abs (by rfl) T.n_abs (by decide +kernel) (pa_cons (pv 2) pa_nil)) (pe_op op_powW (pe_op op_powW pe_int pe_int) pe_int)))) (pa_cons pe_int (pa_cons (pv 1) (pa_cons pe_int pa_nil))))))))), ?_⟩
    obtain ⟨ys, ey, yl, _⟩ := cut_map (f := V.int) (xs := ns) (lo := none) (hi := some 60)
    -- for cell in script[:60]
    refine ⟨_, rfl, _, rfl, a, _, rfl, hS, fun p np => ?_⟩
    rw [ey]
    have s0 : Same H (upd H p (.lst (ys.map V.int))) := same_new np
    refine ⟨p, rfl, ⟨_, SqL.of upd_same⟩, for_list (K := K) (a := p) (xs := ys.map V.int) (fun i σ H' => H' = upd H p (.lst (ys.map V.int)) ∧ ∃ (m : Int) (v : Option V), σ = [some (.ref a), some (.int m), v] ∧ 0 ≤ m ∧ m < 2305843009213693951)
      ⟨rfl, 29, none, rfl, by decide, by decide⟩ (fun i σ H' _ z => by rw [z.1]; exact SqL.of upd_same) ?_ ?_⟩
    · rintro i y σ H' hi ⟨rfl, m, v, rfl, m0, m1⟩
      obtain ⟨z, hz, rfl⟩ := item_int hi
      have big : (2 : Int) ^ (61 : Int).toNat - 1 = 2305843009213693951 := by decide
      refine ⟨_, rfl, m, _, rfl, rfl, .inr ⟨by decide, by decide⟩, _, rfl, z, _, rfl, rfl, (show (2305843009213693921 : Int) ≠ 0 by decide), _, _, rfl, rfl, _, _, rfl, rfl, 2, 61, rfl, rfl, ⟨by decide, by decide⟩, _, _, rfl, rfl, _, _, rfl, rfl, (show (2 : Int) ^ (61 : Int).toNat - 1 ≠ 0 by decide), ?_⟩
      refine ⟨rfl, _, _, rfl, ?_, ?_⟩
      · rw [big, Int.fmod_eq_emod_of_nonneg _ (by decide)]
        exact Int.emod_nonneg _ (by decide)
      · rw [big, Int.fmod_eq_emod_of_nonneg _ (by decide)]
        exact Int.emod_lt_of_pos _ (by decide)
    · rintro σ H' ⟨rfl, m, v, rfl, m0, m1⟩
      -- [[..], 0, seed, 0]
      refine ⟨_, rfl, _, rfl, a, _, rfl, s0.seq hS, fun p2 np2 => ?_⟩
      rw [ey]
      have s1 := s0.trans (same_new (o := .lst (ys.map V.int)) np2)
      refine ⟨p2, rfl, ⟨_, SqL.of upd_same⟩, fun l nl => ?_⟩
      have l0 : H l = none := (s1.trans (Same.refl _)).free nl
      have nlp2 : p2 ≠ l := ne_of_none upd_same nl
      refine lc_list (K := K) (a := p2) (xs := ys.map V.int) (fun i H' => H' p2 = some (.lst (ys.map V.int)) ∧ Same H H' ∧ ∃ xs : List Int, H' l = some (.lst (xs.map V.int)) ∧ xs.length = i ∧ ∀ x ∈ xs, 0 ≤ x)
        ⟨by rw [upd_ne nlp2]; exact upd_same, same_over s1 l0, [], upd_same, rfl, by simp⟩ (fun i H' _ z => SqL.of z.1) ?_ ?_
      · rintro i y H' hi ⟨hp2, sm, xs, hl, en, hx⟩
        obtain ⟨z, hz, rfl⟩ := item_int hi
        have il := (List.getElem?_eq_some_iff.mp hz).1
        have ten : (10 : Int) ^ (60 : Int).toNat = 10 ^ 60 := rfl
        have fit : PowFit ((10 : Int) ^ (60 : Int).toNat) 10 := ⟨by decide, by decide +kernel⟩
        have ne0 : ((10 : Int) ^ (60 : Int).toNat) ^ (10 : Int).toNat ≠ 0 := by decide +kernel
        refine ⟨rfl, ?_⟩
        refine ⟨_, rfl, z, rfl, 10, 60, rfl, rfl, ⟨by decide, by decide⟩, _, 10, rfl, rfl, fit, _, _, rfl, rfl, ne0, ?_⟩
        refine ⟨_, hl, by rw [List.length_map, en]; exact lt_size il (by omega), by rw [upd_ne nlp2]; exact hp2, same_over sm l0, xs ++ [(if z < 0 then -z else z).fmod (((10 : Int) ^ (60 : Int).toNat) ^ (10 : Int).toNat)], ?_, by rw [List.length_append, en]; rfl, ?_⟩
        · rw [upd_same, List.map_append]
          rfl
        · intro x h
          rcases List.mem_append.mp h with h | h
          · exact hx x h
          · cases List.mem_singleton.mp h
            rw [Int.fmod_eq_emod_of_nonneg _ (by decide +kernel)]
            exact Int.emod_nonneg _ ne0
      · rintro H' ⟨hp2, sm, xs, hl, en, hx⟩
        refine ⟨_, rfl, (show 4 ≤ sizeLine by decide), fun b nb => ?_⟩
        refine k b l _ (sm.free nb) l0 ⟨⟨0, m, 0, upd_same, m0, m1⟩, ⟨xs, by rw [upd_ne (ne_of_none hl nb)]; exact hl, hx⟩, (ne_of_none hl nb).symm⟩ (same_over sm (sm.free nb))
end
end My
namespace My
open PySem PySem.Spec PyProof.Rows L2
theorem abc_at {z : Int} (h0 : 0 ≤ z) (h1 : z < 26) : ∃ c, atI abc.cps.toList z = some c ∧ c < 128 := by
  obtain ⟨n, rfl⟩ := Int.eq_ofNat_of_zero_le h0
  have l : abc.cps.toList.length = 26 := by decide +kernel
  have ln : n < abc.cps.toList.length := by rw [l]; omega
  have all : ∀ c ∈ abc.cps.toList, c < 128 := by decide +kernel
  exact ⟨_, atI_nat (List.getElem?_eq_getElem ln), all _ (List.getElem_mem ln)⟩
theorem abc_25 {z : Int} (h0 : 0 ≤ z) (h1 : z < 25) : ∃ c, atI abc.cps.toList z = some c ∧ c < 128 ∧ c ≠ 122 := by
  obtain ⟨n, rfl⟩ := Int.eq_ofNat_of_zero_le h0
  have l : (abc.cps.toList.take 25).length = 25 := by decide +kernel
  have l26 : abc.cps.toList.length = 26 := by decide +kernel
  have ln : n < (abc.cps.toList.take 25).length := by rw [l]; omega
  have ln' : n < abc.cps.toList.length := by rw [l26]; omega
  have all : ∀ c ∈ abc.cps.toList.take 25, c < 128 ∧ c ≠ 122 := by decide +kernel
  have q := all _ (List.getElem_mem ln)
  rw [List.getElem_take] at q
  exact ⟨_, atI_nat (List.getElem?_eq_getElem ln'), q⟩
theorem head_app {a b : Str} {c : Nat} (h : a.cps.toList[0]? = some c) : (a ++ b).cps.toList[0]? = some c := by
  have e : (a ++ b).cps.toList = a.cps.toList ++ b.cps.toList := by
    show (a.cps ++ b.cps).toList = _
    rw [Array.toList_append]
  rw [e]
  have l : 0 < a.cps.toList.length := (List.getElem?_eq_some_iff.mp h).1
  rw [List.getElem?_append_left l]
  exact h
theorem pick3 {a b c : V} {st : Int} (h0 : 0 ≤ st) (h1 : st < 3) (R : V → Prop) (ha : R a) (hb : R b) (hc : R c) : ∃ v, atI [a, b, c] st = some v ∧ R v := by
  obtain e | e | e : st = 0 ∨ st = 1 ∨ st = 2 := by omega
  · subst e
    exact ⟨a, rfl, ha⟩
  · subst e
    exact ⟨b, rfl, hb⟩
  · subst e
    exact ⟨c, rfl, hc⟩
section
variable {P : Program} {w : World} {K : PySem.W.Frag} {mg : Str → Option Value} {base : Heap} {A : Ad}
theorem ok_pool (T : Txt K mg A) : FnOk P w K mg base CX0 2 A.f_pool A.d_pool P_pool spPool := by
  refine T.F_pool.ok sc_pool (fun vs H Q E h => ?_) (fun cdv A' outer s H vs Q E hr h => ?_)
  · obtain ⟨b, l, c, rfl, _⟩ := h
    rfl
  · obtain ⟨b, l, c, rfl, B, c0, c1, k⟩ := h
    refine ⟨_, (pss_cons (ps_set (i := 2) sc_pool.nd rfl (Or.inr rfl) pe_str)
    (pss_cons (ps_set (i := 3) sc_pool.nd rfl (Or.inl rfl) (pe_call (ok_draw T) (hr.mono (by decide)) rfl T.g_draw T.F_draw.kp T.b_draw .nil pass0 (pa_cons (pv 0) (pa_cons pe_int pa_nil))))
    (pss_cons (ps_set (i := 4) sc_pool.nd rfl (Or.inl rfl) (pe_lst pa_nil))
    (pss_cons (ps_for PassesOwn.never rfl (pi_range1 (by rfl) T.n_range (pa_cons (pv 1) pa_nil)) (pg_name (i := 5) sc_pool.nd rfl (Or.inl rfl))
      (pss_cons (ps_set (i := 6) sc_pool.nd rfl (Or.inl rfl) (pe_op op_add_str (pe_ix ix_str (pv 2) (pe_op op_fdivN (pv 5) pe_int) (fun _ _ => rfl)) (pe_ix ix_str (pv 2) (pe_op op_modN (pv 5) pe_int) (fun _ _ => rfl))))
      (pss_cons (ps_set (i := 7) sc_pool.nd rfl (Or.inl rfl) (pe_join pe_str (pe_lc (own := [("sign", 8)]) (tt := tYes) (g := (gName 8)) rfl sc_pool.nd (pi_range1 (by rfl) T.n_range (pa_cons (pe_op op_mul (pe_call (ok_draw T) (hr.mono (by decide)) rfl T.g_draw T.F_draw.kp T.b_draw .nil pass0 (pa_cons (pv 0) (pa_cons pe_int pa_nil))) (pe_callTy call_int1 (by rfl) T.n_int (by decide +kernel) (pa_cons (pe_cmpR op_eq (pv 3) pe_int (nomark _)) pa_nil))) pa_nil)) (blkOk_by (own := [("sign", 8)]) (N := N_pool) (sc := defScope s_pool) (by decide +kernel)) (fun _ _ _ _ _ => (pg_name (i := 8) sc_pool.nd rfl (Or.inl rfl))) (fun _ _ _ _ _ => pts_nil) (fun _ _ _ _ _ => by exact (pe_ix ix_str (pv 2) (pe_call (ok_draw T) (hr.mono (by decide)) rfl T.g_draw T.F_draw.kp T.b_draw .nil pass0 (pa_cons (pv 0) (pa_cons pe_int pa_nil))) (fun _ _ => rfl))))))
      (pss_one (ps_expr (pe_K (K := K) rfl (pe_bm PySem.F.plainAttrs_list PySem.F.slot_list_append PySem.F.type_list_append mt_append (by exact (pv 4)) (by exact (pa_cons (pe_ix (ix_listK (K := K) rfl) (pe_lst (pa_cons (pe_ifExp (pt_cmpR op_lt (pv 1) pe_int (nomark _)) (pe_ix ix_str (pv 2) (pe_op op_modN (pv 5) pe_int) (fun _ _ => rfl)) (pv 6)) (pa_cons (pe_op op_add_str pe_str (pv 6)) (pa_cons (pe_op op_add_str (pv 6) (pv 7)) pa_nil)))) (pv 3) (fun _ _ => rfl)) pa_nil)))))))))
    (pss_one (ps_ret (pv 4))))))), ?_⟩
    -- letters; style; found
    refine ⟨_, rfl, b, l, 3, rfl, B, by decide, by decide, fun st H1 s0 s1 B1 x1 => ?_⟩
    refine ⟨(show 0 ≤ sizeLine by decide), fun p np => ?_⟩
    have pb := B1.nb np
    have pl := B1.nl np
    have np0 : H p = none := by
      cases q : H p with
      | none => rfl
      | some o =>
        have z := x1.get q pb pl
        rw [np] at z
        cases z
    refine ⟨_, rfl, c, rfl, by omega, by omega, for_range (lo := 0) (n := c.toNat) (fun i σ H' => ∃ v5 v6 v7 v8, σ = [some (.ref b), some (.int c), some (.str abc), some (.int st), some (.ref p), v5, v6, v7, v8] ∧
      Bag H' b l ∧ Ext b l H H' ∧ ∃ ws : List Str, H' p = some (.lst (ws.map V.str)) ∧ ws.length = i ∧ W8 ws)
      ⟨none, none, none, none, rfl, B1.put pb pl, x1.over np0, [], upd_same, rfl, w8_nil⟩ ?_ ?_⟩
    · rintro i σ H2 hi ⟨v5, v6, v7, v8, rfl, B2, x2, ws, h2, wl, w8⟩
      have hi' : (i : Int) < c := by omega
      obtain ⟨q1, e1, lo1, nq1⟩ := abc_25 (z := (0 + (i : Int)).fdiv 26) (draw_div (by omega) (by decide)) (by
        rw [Int.fdiv_eq_ediv_of_nonneg _ (by decide)]
        omega)
      obtain ⟨q2, e2, lo2⟩ := abc_at (z := (0 + (i : Int)).fmod 26) (draw_mod (by omega) (by decide)).1 (draw_mod (by omega) (by decide)).2
      have lz : abc.length ≤ sizeLine := by decide +kernel
      -- tail
      refine ⟨_, rfl, _, rfl, _, _, rfl, rfl, ⟨by decide, by decide⟩, abc, _, q1, rfl, rfl, lz, e1, _, rfl, _, rfl, _, _, rfl, rfl, (show (26 : Int) ≠ 0 by decide), abc, _, q2, rfl, rfl, lz, e2, _, _, rfl, rfl, (show 2 ≤ sizeLine by decide), ?_⟩
      -- word
      refine ⟨⟨_, rfl⟩, _, rfl, b, l, 7, rfl, B2, by decide, by decide, fun r H3 r0 r1 B3 x3 => ?_⟩
      refine ⟨_, rfl, rfl, .inr ⟨_, rfl, r, _, rfl, rfl, .inl ⟨by omega, by omega⟩, ?_⟩⟩
      obtain ⟨n, en⟩ : ∃ n, n = r * (if decide (V.int st = V.int 2) = true then (1 : Int) else 0) := ⟨_, rfl⟩
      have n0 : 0 ≤ n ∧ n ≤ 6 := by
        rw [en]
        split <;> omega
      refine ⟨n, by rw [en], by omega, by omega, fun D nD => ?_⟩
      have Db := B3.nb nD
      have Dl := B3.nl nD
      have h3 : H3 p = some (.lst (ws.map V.str)) := x3.get h2 pb pl
      have Dp : p ≠ D := ne_of_none h3 nD
      have nD0 : H D = none := by
        cases q : H D with
        | none => rfl
        | some o =>
          have z := (x2.trans x3).get q Db Dl
          rw [nD] at z
          cases z
      refine lc_range (lo := 0) (n := n.toNat) (fun j H' => Bag H' b l ∧ Ext b l H H' ∧ H' p = some (.lst (ws.map V.str)) ∧ ∃ cs : List Str, H' D = some (.lst (cs.map V.str)) ∧ cs.length = j ∧ (∀ z ∈ cs, z.length = 1) ∧ ∀ z ∈ cs, Lo z)
        ⟨B3.put Db Dl, (x2.trans x3).over nD0, by rw [upd_ne Dp]; exact h3, [], upd_same, rfl, (by intro z h; cases h), by intro z h; cases h⟩ ?_ ?_
      · rintro j H4 hj ⟨B4, x4, h4, cs, hD, cl, c1', cL⟩
        refine ⟨rfl, ?_⟩
        refine ⟨_, rfl, _, rfl, b, l, 26, rfl, B4, by decide, by decide, fun r' H5 t0 t1 B5 x5 => ?_⟩
        obtain ⟨q3, e3, lo3⟩ := abc_at t0 t1
        refine ⟨abc, _, q3, rfl, rfl, lz, e3, _, x5.get hD Db Dl, by rw [List.length_map]; exact lt_size (m := 7) (by omega) (by decide), ?_⟩
        refine ⟨B5.put Db Dl, (x4.trans x5).over nD0, by rw [upd_ne Dp]; exact x5.get h4 pb pl, cs ++ [⟨#[q3]⟩], ?_, by rw [List.length_append, cl]; rfl, ?_, ?_⟩
        · rw [upd_same, List.map_append]
          rfl
        · intro z hz
          rcases List.mem_append.mp hz with q | q
          · exact c1' z q
          · cases List.mem_singleton.mp q
            rfl
        · intro z hz
          rcases List.mem_append.mp hz with q | q
          · exact cL z q
          · cases List.mem_singleton.mp q
            exact lo_one lo3
      · rintro H4 ⟨B4, x4, h4, cs, hD, cl, c1', cL⟩
        have jl := join0 cs c1'
        refine ⟨_, D, cs, rfl, rfl, .inl (SqL.of hD), ?_, ?_⟩
        · rw [sum_ones cs c1']
          have e : (("" : String) : Str).length = 0 := rfl
          rw [e]
          omega
        -- found.append([..][style])
        refine ⟨_, rfl, .inl ⟨rfl, _, SqL.of h4⟩, ?_⟩
        have tj : (Txt.join "" cs).length = cs.length := by
          rw [TL.join_eq]
          exact jl
        have tail2 : ((⟨#[q1]⟩ ++ ⟨#[q2]⟩ : Str)).length = 2 := rfl
        have six : ("mnopqr" : Str).length = 6 := by decide +kernel
        have sz : ∀ n : Nat, n ≤ 1000 → n ≤ sizeLine := fun n h => Nat.le_of_lt (small1000 h)
        have loT : Lo (⟨#[q1]⟩ ++ ⟨#[q2]⟩) := (lo_one lo1).app (lo_one lo2)
        have loM : Lo ("mnopqr" : Str) := by unfold Lo; decide +kernel
        have loJ : Lo (Txt.join "" cs) := by rw [TL.join_eq]; exact lo_join cs cL
        have z1 : Ok8 (("mnopqr" : Str) ++ (⟨#[q1]⟩ ++ ⟨#[q2]⟩)) := ⟨by rw [str_add, six, tail2]; decide, loM.app loT, fun e => by rw [str_add, six, tail2] at e; cases e⟩
        have z2 : Ok8 ((⟨#[q1]⟩ ++ ⟨#[q2]⟩ : Str) ++ Txt.join "" cs) := ⟨by rw [str_add, tail2, tj]; omega, loT.app loJ, fun _ e => nq1 (Option.some.inj ((head_app (head_app (a := ⟨#[q1]⟩) (b := ⟨#[q2]⟩) rfl)).symm.trans e))⟩
        have wsz : ws.length < 97 := by omega
        refine ⟨_, rfl, _, _, rfl, rfl, _, rfl, ite2 (fun _ => ?_) (fun _ => ?_)⟩
        · refine ⟨_, rfl, _, rfl, _, _, rfl, rfl, (show (26 : Int) ≠ 0 by decide), abc, _, q2, rfl, rfl, lz, e2, ?_⟩
          obtain ⟨v, ev, z, zv, z8⟩ := pick3 (a := .str ⟨#[q2]⟩) (b := .str (("mnopqr" : Str) ++ (⟨#[q1]⟩ ++ ⟨#[q2]⟩))) (c := .str ((⟨#[q1]⟩ ++ ⟨#[q2]⟩ : Str) ++ Txt.join "" cs)) s0 s1 (fun v => ∃ z, v = V.str z ∧ Ok8 z) ⟨_, rfl, ⟨(by decide : 1 ≤ 8), lo_one lo2, fun e => by cases (show (1 : Nat) = 5 from e)⟩⟩ ⟨_, rfl, z1⟩ ⟨_, rfl, z2⟩
          subst zv
          refine ⟨_, rfl, _, _, rfl, rfl, (by rw [six, tail2]; exact sz _ (by decide)), _, rfl, _, rfl, _, _, rfl, rfl, (by rw [tail2, tj]; exact sz _ (by omega)), (show 3 ≤ sizeLine by decide), fun q nq => ?_⟩
          have pq : p ≠ q := ne_of_none h4 nq
          refine ⟨_, rfl, q, _, _, _, rfl, rfl, SqL.of upd_same, ev, ?_⟩
          refine ⟨p, _, _, rfl, rfl, by rw [upd_ne pq]; exact h4, by rw [List.length_map]; exact lt_size wsz (by decide), ?_⟩
          refine ⟨_, _, _, _, rfl, (B4.put (B4.nb nq) (B4.nl nq)).put pb pl, ((x4.trans (Ext.of_same (same_new nq))).over np0), ws ++ [z], ?_, by rw [List.length_append, wl]; rfl, w8.snoc z8⟩
          rw [upd_same, List.map_append]
          rfl
        · refine ⟨_, rfl, ?_⟩
          obtain ⟨v, ev, z, zv, z8⟩ := pick3 (a := .str (⟨#[q1]⟩ ++ ⟨#[q2]⟩)) (b := .str (("mnopqr" : Str) ++ (⟨#[q1]⟩ ++ ⟨#[q2]⟩))) (c := .str ((⟨#[q1]⟩ ++ ⟨#[q2]⟩ : Str) ++ Txt.join "" cs)) s0 s1 (fun v => ∃ z, v = V.str z ∧ Ok8 z) ⟨_, rfl, ⟨(by rw [tail2]; decide), loT, fun e => by rw [tail2] at e; cases e⟩⟩ ⟨_, rfl, z1⟩ ⟨_, rfl, z2⟩
          subst zv
          refine ⟨_, rfl, _, _, rfl, rfl, (by rw [six, tail2]; exact sz _ (by decide)), _, rfl, _, rfl, _, _, rfl, rfl, (by rw [tail2, tj]; exact sz _ (by omega)), (show 3 ≤ sizeLine by decide), fun q nq => ?_⟩
          have pq : p ≠ q := ne_of_none h4 nq
          refine ⟨_, rfl, q, _, _, _, rfl, rfl, SqL.of upd_same, ev, ?_⟩
          refine ⟨p, _, _, rfl, rfl, by rw [upd_ne pq]; exact h4, by rw [List.length_map]; exact lt_size wsz (by decide), ?_⟩
          refine ⟨_, _, _, _, rfl, (B4.put (B4.nb nq) (B4.nl nq)).put pb pl, ((x4.trans (Ext.of_same (same_new nq))).over np0), ws ++ [z], ?_, by rw [List.length_append, wl]; rfl, w8.snoc z8⟩
          rw [upd_same, List.map_append]
          rfl
    · rintro σ H2 ⟨v5, v6, v7, v8, rfl, B2, x2, ws, h2, wl, w8⟩
      exact ⟨_, rfl, k p ws H2 np0 pb pl (by omega) w8 h2 B2 x2⟩
end
end My
namespace My
open PySem PySem.Spec PyProof.Rows L2
section
variable {P : Program} {w : World} {K : PySem.W.Frag} {mg : Str → Option Value} {base : Heap} {A : Ad}
theorem ok_keeper (T : Txt K mg A) : FnOk P w K mg base CX0 2 A.f_keeper A.d_keeper P_keeper spKeeper := by
  refine T.F_keeper.ok sc_keeper (fun vs H Q E h => ?_) (fun cdv A' outer s H vs Q E hr h => ?_)
  · obtain ⟨b, l, so, n, ws, rfl, _⟩ := h
    rfl
  · obtain ⟨b, l, so, n, ws, rfl, B, hso, sob, sol, w8, w12, w96, n8, k⟩ := h
    refine ⟨_, (pss_cons (ps_set (i := 3) sc_keeper.nd rfl (Or.inl rfl) (pe_op op_add pe_int (pe_call (ok_draw T) (hr.mono (by decide)) rfl T.g_draw T.F_draw.kp T.b_draw .nil pass0 (pa_cons (pv 0) (pa_cons (pe_ix (ix_listK (K := K) rfl) (pe_lst (pa_cons pe_int (pa_cons pe_int pa_nil))) (pe_call (ok_draw T) (hr.mono (by decide)) rfl T.g_draw T.F_draw.kp T.b_draw .nil pass0 (pa_cons (pv 0) (pa_cons pe_int pa_nil))) (fun _ _ => rfl)) pa_nil)))))
    (pss_cons (ps_set (i := 4) sc_keeper.nd rfl (Or.inl rfl) (pe_cmpR op_eq (pe_call (ok_draw T) (hr.mono (by decide)) rfl T.g_draw T.F_draw.kp T.b_draw .nil pass0 (pa_cons (pv 0) (pa_cons pe_int pa_nil))) pe_int (nomark _)))
    (pss_cons (ps_set (i := 5) sc_keeper.nd rfl (Or.inr rfl) (pe_callTy (list_ofK (K := K) rfl) (by rfl) T.n_list (by decide +kernel) (pa_cons (pv 2) pa_nil)))
    (pss_cons (ps_setLc (i := 6) (own := [("k", 7)]) (tt := tYes) (g := (gName 7)) rfl sc_keeper.nd rfl rfl (sw_true rfl rfl rfl (by decide +kernel)) (pi_range1 (by rfl) T.n_range (pa_cons (pe_ifExp (pt_val (pv 4)) (pe_call (ok_draw T) (hr.mono (by decide)) rfl T.g_draw T.F_draw.kp T.b_draw .nil pass0 (pa_cons (pv 0) (pa_cons (pe_op op_add (pv 3) pe_int) pa_nil))) (pv 3)) pa_nil)) (blkOk_by (own := [("k", 7)]) (N := N_keeper) (sc := defScope s_keeper) (by decide +kernel)) (fun _ _ _ _ _ => (pg_name (i := 7) sc_keeper.nd rfl (Or.inl rfl))) (fun _ _ _ _ _ => pts_nil) (fun _ _ _ _ _ => by exact (pe_K (K := K) rfl (pe_bm PySem.F.plainAttrs_list PySem.F.slot_list_pop PySem.F.type_list_pop mt_popAt (by exact (pv 5)) (by exact (pa_cons (pe_call (ok_draw T) (hr.mono (by decide)) rfl T.g_draw T.F_draw.kp T.b_draw .nil pass0 (pa_cons (pv 0) (pa_cons (pe_callB (len_seqK (K := K) rfl) (by rfl) T.n_len PySem.boot_len (pa_cons (pv 5) pa_nil)) pa_nil))) pa_nil))))))
    (pss_one (ps_ret (pe_tup (pa_cons (pv 1) (pa_cons (pv 3) (pa_cons (pv 4) (pa_cons (pv 6) pa_nil))))))))))), ?_⟩
    -- room
    refine ⟨_, rfl, (show 2 ≤ sizeLine by decide), fun q nq => ?_⟩
    have qb := B.nb nq
    have ql := B.nl nq
    refine ⟨_, rfl, b, l, 2, rfl, B.put qb ql, by decide, by decide, fun r H1 r0 r1 B1 x1 => ?_⟩
    have y1 : Ext b l H H1 := (Ext.of_same (same_new nq)).trans x1
    obtain ⟨m, em, m0, m1⟩ : ∃ m : Int, atI [V.int 3, V.int 12] r = some (.int m) ∧ 0 < m ∧ m ≤ 12 := by
      obtain e | e : r = 0 ∨ r = 1 := by omega
      · subst e
        exact ⟨3, rfl, by decide, by decide⟩
      · subst e
        exact ⟨12, rfl, by decide, by decide⟩
    refine ⟨q, _, _, _, rfl, rfl, SqL.of (x1.get upd_same qb ql), em, b, l, m, rfl, B1, m0, by omega, fun r2 H2 r20 r21 B2 x2 => ?_⟩
    refine ⟨_, _, rfl, rfl, ?_⟩
    -- whole
    refine ⟨_, rfl, b, l, 2, rfl, B2, by decide, by decide, fun r3 H3 r30 r31 B3 x3 => ⟨rfl, ?_⟩⟩
    have y3 : Ext b l H H3 := (y1.trans x2).trans x3
    obtain ⟨wh, ewh⟩ : ∃ wh, wh = decide (V.int r3 = V.int 0) := ⟨_, rfl⟩
    rw [← ewh]
    -- left
    refine ⟨_, rfl, so, _, rfl, .inl (SqL.of (y3.get hso sob sol)), fun L nL => ?_⟩
    have Lb := B3.nb nL
    have Ll := B3.nl nL
    have nL0 := y3.free nL Lb Ll
    -- row
    refine ⟨_, rfl, _, rfl, ?_⟩
    refine join2 (fun v H5 => ∃ i : Int, v = V.int i ∧ 0 ≤ i ∧ i ≤ 12 ∧ Bag H5 b l ∧ Ext b l H H5 ∧ H5 L = some (.lst (ws.map V.str))) ?_ (fun hq => ?_)
    · rintro v H5 ⟨i, rfl, i0, i12, B5, y5, h5⟩
      refine ⟨i, rfl, by omega, by omega, fun D nD => ?_⟩
      have Db := B5.nb nD
      have Dl := B5.nl nD
      have nD0 := y5.free nD Db Dl
      have LD : L ≠ D := ne_of_none h5 nD
      refine lc_range (lo := 0) (n := i.toNat) (fun j H' => Bag H' b l ∧ Ext b l H H' ∧ ∃ rest rw : List Str, H' L = some (.lst (rest.map V.str)) ∧ rest.length + j = ws.length ∧ W8 rest ∧
          H' D = some (.lst (rw.map V.str)) ∧ rw.length = j ∧ W8 rw)
        ⟨B5.put Db Dl, y5.over nD0, ws, [], by rw [upd_ne LD]; exact h5, rfl, w8, upd_same, rfl, w8_nil⟩ ?_ ?_
      · rintro j H6 hj ⟨B6, y6, rest, rw', hL, el, wr, hD, en, wq⟩
        refine ⟨rfl, ?_⟩
        refine ⟨_, rfl, .inl ⟨rfl, _, SqL.of hL⟩, _, rfl, _, rfl, L, _, rfl, .inl (SqL.of hL), b, l, _, rfl, B6, ?_, ?_, fun t H7 t0 t1 B7 x7 => ?_⟩
        · rw [List.length_map]
          omega
        · rw [List.length_map]
          omega
        rw [List.length_map] at t1
        obtain ⟨tn, rfl⟩ := Int.eq_ofNat_of_zero_le t0
        have tl : tn < rest.length := by omega
        have hL7 := x7.get hL Lb Ll
        have it : (rest.map V.str)[tn]? = some (.str rest[tn]) := map_at (List.getElem?_eq_getElem tl)
        refine ⟨L, _, _, tn, _, rfl, rfl, hL7, by omega, by omega, seq_at (by rw [List.length_map]; exact tl), it, ?_⟩
        refine ⟨_, by rw [upd_ne LD.symm]; exact x7.get hD Db Dl, by rw [List.length_map, en]; exact lt_size (m := 13) (by omega) (by decide), ?_⟩
        refine ⟨(B7.put Lb Ll).put Db Dl, ((y6.trans x7).over nL0).over nD0, rest.eraseIdx tn, rw' ++ [rest[tn]], ?_, ?_, w8_erase wr, ?_, by rw [List.length_append, en]; rfl, wq.snoc (wr _ (List.getElem_mem tl))⟩
        · rw [upd_ne LD, upd_same, erase_map]
        · rw [List.length_eraseIdx]
          rw [if_pos tl]
          omega
        · rw [upd_same, List.map_append]
          rfl
      · rintro H6 ⟨B6, y6, rest, rw', hL, el, wr, hD, en, wq⟩
        refine ⟨_, rfl, _, rfl, _, rfl, _, rfl, (show 4 ≤ sizeLine by decide), fun t nt => ?_⟩
        have tb := B6.nb nt
        have tl := B6.nl nt
        refine k t ⟨n, 1 + r2, wh, rw'⟩ _ rfl ⟨n8, by show 1 ≤ 1 + r2; omega, by show 1 + r2 ≤ 12; omega, by show rw'.length ≤ 12; omega, wq⟩ ⟨D, ?_, ?_⟩ (B6.put tb tl) (y6.trans (Ext.of_same (same_new nt)))
        · rw [nw_eq (y6.free nt tb tl), upd_same]
        · rw [nw_eq nD0, upd_ne (ne_of_none hD nt)]
          exact hD
    · cases wh with
      | true =>
        refine ⟨_, rfl, _, rfl, _, _, rfl, rfl, b, l, _, rfl, B3.put Lb Ll, by omega, by omega, fun r4 H4 r40 r41 B4 x4 => ?_⟩
        exact hq _ _ ⟨r4, rfl, r40, by omega, B4, (y3.over nL0).trans x4, x4.get upd_same Lb Ll⟩
      | false =>
        exact ⟨_, rfl, hq _ _ ⟨_, rfl, by omega, by omega, B3.put Lb Ll, y3.over nL0, upd_same⟩⟩
end
end My
namespace My
open PySem PySem.Spec PyProof.Rows L2
section
variable {P : Program} {w : World} {K : PySem.W.Frag} {mg : Str → Option Value} {base : Heap} {A : Ad}
theorem ok_board (T : Txt K mg A) : FnOk P w K mg base CX0 3 A.f_board A.d_board P_board spBoard := by
  refine T.F_board.ok sc_board (fun vs H Q E h => ?_) (fun cdv A' outer s H vs Q E hr h => ?_)
  · obtain ⟨b, l, rfl, _⟩ := h
    rfl
  · obtain ⟨b, l, rfl, B, k⟩ := h
    refine ⟨_, (pss_cons (ps_set (i := 1) sc_board.nd rfl (Or.inr rfl) (pe_call (ok_pool T) (hr.mono (by decide)) rfl T.g_pool T.F_pool.kp T.b_pool .nil pass0 (pa_cons (pv 0) (pa_cons (pe_ix (ix_listK (K := K) rfl) (pe_lst (pa_cons pe_int (pa_cons pe_int (pa_cons pe_int pa_nil)))) (pe_call (ok_draw T) (hr.mono (by decide)) rfl T.g_draw T.F_draw.kp T.b_draw .nil pass0 (pa_cons (pv 0) (pa_cons pe_int pa_nil))) (fun _ _ => rfl)) pa_nil))))
    (pss_cons (ps_set (i := 2) sc_board.nd rfl (Or.inr rfl) (pe_ix (ix_listK (K := K) rfl) (pe_lst (pa_cons (pe_slice (sl_listK (K := K) rfl) (pv 1) po_none (po_some pe_int)) (pa_cons (pe_call (ok_pool T) (hr.mono (by decide)) rfl T.g_pool T.F_pool.kp T.b_pool .nil pass0 (pa_cons (pv 0) (pa_cons pe_int pa_nil))) pa_nil))) (pe_call (ok_draw T) (hr.mono (by decide)) rfl T.g_draw T.F_draw.kp T.b_draw .nil pass0 (pa_cons (pv 0) (pa_cons pe_int pa_nil))) (fun _ _ => rfl)))
    (pss_cons (ps_set (i := 3) sc_board.nd rfl (Or.inl rfl) (pe_lst pa_nil))
    (pss_cons (ps_set (i := 4) sc_board.nd rfl (Or.inl rfl) pe_int)
    (pss_cons (ps_for PassesOwn.never rfl (pi_range1 (by rfl) T.n_range (pa_cons (pe_call (ok_draw T) (hr.mono (by decide)) rfl T.g_draw T.F_draw.kp T.b_draw .nil pass0 (pa_cons (pv 0) (pa_cons pe_int pa_nil))) pa_nil)) (pg_name (i := 5) sc_board.nd rfl (Or.inl rfl))
      (pss_cons (ps_set (i := 6) sc_board.nd rfl (Or.inl rfl) (pe_call (ok_draw T) (hr.mono (by decide)) rfl T.g_draw T.F_draw.kp T.b_draw .nil pass0 (pa_cons (pv 0) (pa_cons (pe_op op_add (pv 4) pe_int) pa_nil))))
      (pss_cons (ps_set (i := 4) sc_board.nd rfl (Or.inl rfl) (pe_op op_sub (pv 4) (pv 6)))
      (pss_cons (ps_setLc (i := 7) (own := [("k", 8)]) (tt := tYes) (g := (gName 8)) rfl sc_board.nd rfl rfl (sw_true rfl rfl rfl (by decide +kernel)) (pi_range1 (by rfl) T.n_range (pa_cons (pv 6) pa_nil)) (blkOk_by (own := [("k", 8)]) (N := N_board) (sc := defScope s_board) (by decide +kernel)) (fun _ _ _ _ _ => (pg_name (i := 8) sc_board.nd rfl (Or.inl rfl))) (fun _ _ _ _ _ => pts_nil) (fun _ _ _ _ _ => by exact (pe_call (ok_keeper T) (hr.mono (by decide)) rfl T.g_keeper T.F_keeper.kp T.b_keeper .nil pass0 (pa_cons (pv 0) (pa_cons (pe_K (K := K) rfl (pe_bm PySem.F.plainAttrs_list PySem.F.slot_list_pop PySem.F.type_list_pop mt_popAt (by exact (pv 2)) (by exact (pa_cons (pe_call (ok_draw T) (hr.mono (by decide)) rfl T.g_draw T.F_draw.kp T.b_draw .nil pass0 (pa_cons (pv 0) (pa_cons (pe_callB (len_seqK (K := K) rfl) (by rfl) T.n_len PySem.boot_len (pa_cons (pv 2) pa_nil)) pa_nil))) pa_nil)))) (pa_cons (pv 1) pa_nil))))))
      (pss_one (ps_expr (pe_K (K := K) rfl (pe_bm PySem.F.plainAttrs_list PySem.F.slot_list_append PySem.F.type_list_append mt_append (by exact (pv 3)) (by exact (pa_cons (pe_tup (pa_cons (pe_call (ok_draw T) (hr.mono (by decide)) rfl T.g_draw T.F_draw.kp T.b_draw .nil pass0 (pa_cons (pv 0) (pa_cons (pe_op op_add (pv 6) pe_int) pa_nil))) (pa_cons (pv 7) pa_nil))) pa_nil))))))))))
    (pss_one (ps_ret (pv 3)))))))), ?_⟩
    -- some
    refine ⟨_, rfl, (show 3 ≤ sizeLine by decide), fun q nq => ?_⟩
    have qb := B.nb nq
    have ql := B.nl nq
    refine ⟨_, rfl, b, l, 3, rfl, B.put qb ql, by decide, by decide, fun r H1 r0 r1 B1 x1 => ?_⟩
    have y1 : Ext b l H H1 := (Ext.of_same (same_new nq)).trans x1
    obtain ⟨v, ev, m, rfl, m0, m1⟩ := pick3 (a := .int 12) (b := .int 16) (c := .int 96) r0 r1 (fun v => ∃ m, v = V.int m ∧ 12 ≤ m ∧ m ≤ 96) ⟨_, rfl, by decide, by decide⟩ ⟨_, rfl, by decide, by decide⟩ ⟨_, rfl, by decide, by decide⟩
    refine ⟨q, _, _, _, rfl, rfl, SqL.of (x1.get upd_same qb ql), ev, b, l, m, rfl, B1, by omega, m1, fun so ws H2 nso sob sol wl w8 hso B2 x2 => ?_⟩
    have y2 := y1.trans x2
    -- called
    refine ⟨_, rfl, _, rfl, so, _, rfl, SqL.of hso, fun c1 nc1 => ?_⟩
    obtain ⟨cs1, ec1, lc1, sub1⟩ := cut_pre (f := V.str) (xs := ws) (k := 8)
    have ec1' : cutV (ws.map V.str) none (some 8) = cs1.map V.str := ec1
    rw [ec1']
    have c1b := B2.nb nc1
    have c1l := B2.nl nc1
    have soc1 : so ≠ c1 := ne_of_none hso nc1
    have nc10 := y2.free nc1 c1b c1l
    refine ⟨_, rfl, b, l, 8, rfl, B2.put c1b c1l, by decide, by decide, fun c2 cs2 H3 nc2 c2b c2l lc2 w82 hc2 B3 x3 => ?_⟩
    have y3 := (y2.over nc10).trans x3
    have hc1 : H3 c1 = some (.lst (cs1.map V.str)) := x3.get upd_same c1b c1l
    have hso3 : H3 so = some (.lst (ws.map V.str)) := x3.get (by rw [upd_ne soc1]; exact hso) sob sol
    have c1c2 : c1 ≠ c2 := fun z => by
      rw [← z, upd_same] at nc2
      cases nc2
    have soc2 : so ≠ c2 := fun z => by
      rw [← z, upd_ne soc1, hso] at nc2
      cases nc2
    refine ⟨(show 2 ≤ sizeLine by decide), fun q2 nq2 => ?_⟩
    have q2b := B3.nb nq2
    have q2l := B3.nl nq2
    refine ⟨_, rfl, b, l, 2, rfl, B3.put q2b q2l, by decide, by decide, fun r2 H4 r20 r21 B4 x4 => ?_⟩
    have y4 := (y3.trans (Ext.of_same (same_new nq2))).trans x4
    have z4 : Ext b l H3 H4 := (Ext.of_same (same_new nq2)).trans x4
    obtain ⟨cl, cs, ecl, hcl, clb, cll, ncl, socl, lcs, w8c⟩ : ∃ (cl : Addr) (cs : List Str), atI [V.ref c1, V.ref c2] r2 = some (.ref cl) ∧ H4 cl = some (.lst (cs.map V.str)) ∧ cl ≠ b ∧ cl ≠ l ∧ H cl = none ∧ so ≠ cl ∧ cs.length = 8 ∧ W8 cs := by
      obtain e | e : r2 = 0 ∨ r2 = 1 := by omega
      · subst e
        exact ⟨c1, cs1, rfl, z4.get hc1 c1b c1l, c1b, c1l, nc10, soc1, by omega, fun z hz => w8 z (sub1 z hz)⟩
      · subst e
        refine ⟨c2, cs2, rfl, z4.get hc2 c2b c2l, c2b, c2l, ?_, soc2, by omega, w82⟩
        have nn : H2 c2 = none := by
          rw [upd_ne c1c2.symm] at nc2
          exact nc2
        exact y2.free nn c2b c2l
    have hso4 := z4.get hso3 sob sol
    refine ⟨q2, _, _, _, rfl, rfl, SqL.of (x4.get upd_same q2b q2l), ecl, ?_⟩
    -- found; left
    refine ⟨(show 0 ≤ sizeLine by decide), fun f nf => ?_⟩
    have fb := B4.nb nf
    have fl := B4.nl nf
    have nf0 := y4.free nf fb fl
    have clf : cl ≠ f := ne_of_none hcl nf
    have sof : so ≠ f := ne_of_none hso4 nf
    -- for t in range(..)
    refine ⟨_, rfl, b, l, 4, rfl, B4.put fb fl, by decide, by decide, fun r3 H5 r30 r31 B5 x5 => ?_⟩
    have y5 := (y4.over nf0).trans x5
    refine ⟨r3, rfl, by omega, by omega, for_range (lo := 0) (n := r3.toNat) (fun i σ H' => ∃ v5 v6 v7 v8 lf, σ = [some (.ref b), some (.ref so), some (.ref cl), some (.ref f), some (.int lf), v5, v6, v7, v8] ∧
        Bag H' b l ∧ Ext b l H H' ∧ H' so = some (.lst (ws.map V.str)) ∧ (∃ cs : List Str, H' cl = some (.lst (cs.map V.str)) ∧ (cs.length : Int) = lf ∧ lf ≤ 8 ∧ W8 cs) ∧
        ∃ (as : List Addr) (bd : List Tm), H' f = some (.lst (as.map V.ref)) ∧ bd.length = i ∧ ((bd.flatMap (·.ks)).length : Int) + lf = 8 ∧ (∀ t ∈ bd, TmOk t) ∧ Paired (TmAt (Of1 f (Of1 cl (Nw H H')))) as bd)
      ⟨none, none, none, none, 8, rfl, B5, y5, x5.get (by rw [upd_ne sof]; exact hso4) sob sol, ⟨cs, x5.get (by rw [upd_ne clf]; exact hcl) clb cll, by omega, by omega, w8c⟩, [], [], x5.get upd_same fb fl, rfl, rfl, (by intro t h; cases h), .nil⟩ ?_ ?_⟩
    · rintro i σ H6 hi ⟨v5, v6, v7, v8, lf, rfl, B6, y6, hso6, ⟨cs, hcl6, el, lf8, w8c⟩, as, bd, hf6, eb, tot, okb, pb⟩
      -- count; left
      refine ⟨_, rfl, _, rfl, _, _, rfl, rfl, b, l, _, rfl, B6, by omega, by omega, fun n H7 n0 n1 B7 x7 => ?_⟩
      refine ⟨_, rfl, _, rfl, _, _, rfl, rfl, ?_⟩
      have y7 := y6.trans x7
      have hso7 := x7.get hso6 sob sol
      have hcl7 := x7.get hcl6 clb cll
      have hf7 := x7.get hf6 fb fl
      have pb7 : Paired (TmAt (Of1 f (Of1 cl (Nw H H7)))) as bd := L2.Paired.mapP pb fun a t q => q.same (of1_same (of1_same (nw_ext B x7)))
      -- keepers
      refine ⟨_, rfl, n, rfl, by omega, by omega, fun D nD => ?_⟩
      have Db := B7.nb nD
      have Dl := B7.nl nD
      have nD0 := y7.free nD Db Dl
      have soD : so ≠ D := ne_of_none hso7 nD
      have clD : cl ≠ D := ne_of_none hcl7 nD
      have fD : f ≠ D := ne_of_none hf7 nD
      have outB : ∀ {c : Addr}, H c = none → c ≠ b ∧ c ≠ l := fun h => ⟨B.nb h, B.nl h⟩
      refine lc_range (lo := 0) (n := n.toNat) (fun j H' => Bag H' b l ∧ Ext b l H H' ∧ H' so = some (.lst (ws.map V.str)) ∧ H' f = some (.lst (as.map V.ref)) ∧
          (∃ cs : List Str, H' cl = some (.lst (cs.map V.str)) ∧ cs.length + j = lf ∧ W8 cs) ∧ Paired (TmAt (Of1 D (Of1 f (Of1 cl (Nw H H'))))) as bd ∧
          ∃ (ds : List Addr) (ks : List Kp), H' D = some (.lst (ds.map V.ref)) ∧ ks.length = j ∧ (∀ k ∈ ks, KpOk k) ∧ Paired (KpAt (Of1 D (Of1 f (Of1 cl (Nw H H'))))) ds ks)
        ⟨B7.put Db Dl, y7.over nD0, by rw [upd_ne soD]; exact hso7, by rw [upd_ne fD]; exact hf7, ⟨cs, by rw [upd_ne clD]; exact hcl7, by omega, w8c⟩, ?_, [], [], upd_same, rfl, (by intro k h; cases h), .nil⟩ ?_ ?_
      · refine L2.Paired.mapP pb7 fun a t q => q.same fun c u h => ?_
        obtain ⟨h1, h2, h3, h4⟩ := of2_get h
        have h5 := ne_of_none h4 nD
        exact of3_put h5 h1 h2 h3 (by rw [upd_ne h5]; exact h4)
      · rintro j H8 hj ⟨B8, y8, hso8, hf8, ⟨cs, hcl8, el8, w8c⟩, pb8, ds, ks, hD8, ek, okk, pk⟩
        refine ⟨rfl, ?_⟩
        refine ⟨_, rfl, _, rfl, .inl ⟨rfl, _, SqL.of hcl8⟩, _, rfl, _, rfl, cl, _, rfl, .inl (SqL.of hcl8), b, l, _, rfl, B8, ?_, ?_, fun t H9 t0 t1 B9 x9 => ?_⟩
        · rw [List.length_map]
          omega
        · rw [List.length_map]
          omega
        rw [List.length_map] at t1
        obtain ⟨tn, rfl⟩ := Int.eq_ofNat_of_zero_le t0
        have tl : tn < cs.length := by omega
        have hcl9 := x9.get hcl8 clb cll
        have it : (cs.map V.str)[tn]? = some (.str cs[tn]) := map_at (List.getElem?_eq_getElem tl)
        refine ⟨cl, _, _, tn, _, rfl, rfl, hcl9, by omega, by omega, seq_at (by rw [List.length_map]; exact tl), it, ?_⟩
        have hcl10 : (upd H9 cl (.lst ((cs.map V.str).eraseIdx tn))) cl = some (.lst ((cs.eraseIdx tn).map V.str)) := by rw [upd_same, erase_map]
        have hso10 : (upd H9 cl (.lst ((cs.map V.str).eraseIdx tn))) so = some (.lst (ws.map V.str)) := by rw [upd_ne socl]; exact x9.get hso8 sob sol
        refine ⟨_, rfl, b, l, so, _, ws, rfl, B9.put clb cll, hso10, sob, sol, w8, by omega, by omega, w8c _ (List.getElem_mem tl), fun a kk H10 en kok kat B10 x10 => ?_⟩
        have hD10 : H10 D = some (.lst (ds.map V.ref)) := x10.get (by rw [upd_ne clD.symm]; exact x9.get hD8 Db Dl) Db Dl
        have hf9 : (upd H9 cl (.lst ((cs.map V.str).eraseIdx tn))) f = some (.lst (as.map V.ref)) := by rw [upd_ne clf.symm]; exact x9.get hf8 fb fl
        have dl : ds.length = ks.length := pk.length
        have keepD : Same (Of1 D (Of1 f (Of1 cl (Nw H H8)))) (Of1 D (Of1 f (Of1 cl (Nw H (upd H10 D (.lst (ds.map V.ref ++ [.ref a]))))))) := fun c u h => by
          obtain ⟨h0, h1, h2, h3, h4⟩ := of3_get h
          obtain ⟨c1', c2'⟩ := outB h3
          refine of3_put h0 h1 h2 h3 ?_
          rw [upd_ne h0]
          exact x10.get (by rw [upd_ne h2]; exact x9.get h4 c1' c2') c1' c2'
        refine ⟨_, hD10, by rw [List.length_map, dl, ek]; exact lt_size (m := 9) (by omega) (by decide), ?_⟩
        refine ⟨B10.put Db Dl, (((y8.trans x9).over ncl).trans x10).over nD0, by rw [upd_ne soD]; exact x10.get hso10 sob sol, by rw [upd_ne fD]; exact x10.get hf9 fb fl,
          ⟨cs.eraseIdx tn, by rw [upd_ne clD]; exact x10.get hcl10 clb cll, ?_, w8_erase w8c⟩, L2.Paired.mapP pb8 fun a t q => q.same keepD, ds ++ [a], ks ++ [kk], ?_, by rw [List.length_append, ek]; rfl, ?_, ?_⟩
        · rw [List.length_eraseIdx, if_pos tl]
          omega
        · rw [upd_same, List.map_append]
          rfl
        · intro k hk
          rcases List.mem_append.mp hk with z | z
          · exact okk k z
          · cases List.mem_singleton.mp z
            exact kok
        · refine paired_snoc (L2.Paired.mapP pk fun a t q => q.same keepD) (kat.same fun c u h => ?_)
          obtain ⟨h1, h2⟩ := nw_some h
          have hD9 : (upd H9 cl (.lst ((cs.map V.str).eraseIdx tn))) D = some (.lst (ds.map V.ref)) := by rw [upd_ne clD.symm]; exact x9.get hD8 Db Dl
          have cD : c ≠ D := fun z => by rw [z, hD9] at h1; cases h1
          have cf : c ≠ f := fun z => by rw [z, hf9] at h1; cases h1
          have cc : c ≠ cl := fun z => by rw [z, hcl10] at h1; cases h1
          have Bx := B9.put (o := .lst ((cs.map V.str).eraseIdx tn)) clb cll
          exact of3_put cD cf cc (((y8.trans x9).over ncl).free h1 (Bx.nb h1) (Bx.nl h1)) (by rw [upd_ne cD]; exact h2)
      · rintro H8 ⟨B8, y8, hso8, hf8, ⟨cs, hcl8, el8, w8c⟩, pb8, ds, ks, hD8, ek, okk, pk⟩
        -- found.append((.., keepers))
        refine ⟨_, rfl, .inl ⟨rfl, _, SqL.of hf8⟩, _, rfl, _, rfl, _, _, rfl, rfl, b, l, _, rfl, B8, by omega, by omega, fun r4 H9 r40 r41 B9 x9 => ?_⟩
        refine ⟨_, rfl, (show 2 ≤ sizeLine by decide), fun t nt => ?_⟩
        have hf9 := x9.get hf8 fb fl
        have hD9 := x9.get hD8 Db Dl
        have hcl9 := x9.get hcl8 clb cll
        have tb := B9.nb nt
        have tl := B9.nl nt
        have y9 := y8.trans x9
        have nt0 := y9.free nt tb tl
        have ft : f ≠ t := ne_of_none hf9 nt
        have clt : cl ≠ t := ne_of_none hcl9 nt
        have Dt : D ≠ t := ne_of_none hD9 nt
        have al : as.length = bd.length := pb8.length
        refine ⟨f, _, _, rfl, rfl, by rw [upd_ne ft]; exact hf9, by rw [List.length_map, al, eb]; exact lt_size (m := 5) (by omega) (by decide), ?_⟩
        have keep9 : Same (Of1 D (Of1 f (Of1 cl (Nw H H8)))) (Of1 f (Of1 cl (Nw H (upd (upd H9 t (.tup [.int r4, .ref D])) f (.lst (as.map V.ref ++ [.ref t])))))) := fun c u h => by
          obtain ⟨h0, h1, h2, h3, h4⟩ := of3_get h
          obtain ⟨c1', c2'⟩ := outB h3
          have h5 := x9.get h4 c1' c2'
          refine of2_put h1 h2 h3 ?_
          rw [upd_ne h1, upd_ne (ne_of_none h5 nt)]
          exact h5
        refine ⟨_, _, _, _, _, rfl, (B9.put tb tl).put fb fl, (y9.over nt0).over nf0, ?_, ⟨cs, ?_, ?_, ?_, w8c⟩, as ++ [t], bd ++ [⟨r4, ks⟩], ?_, by rw [List.length_append, eb]; rfl, ?_, ?_, ?_⟩
        · rw [upd_ne sof, upd_ne (ne_of_none (x9.get hso8 sob sol) nt)]
          exact x9.get hso8 sob sol
        · rw [upd_ne clf, upd_ne clt]
          exact hcl9
        · omega
        · omega
        · rw [upd_same, List.map_append]
          rfl
        · rw [List.flatMap_append, List.length_append, List.flatMap_cons, List.flatMap_nil, List.append_nil]
          show ((_ + ks.length : Nat) : Int) + _ = 8
          omega
        · intro tm hm
          rcases List.mem_append.mp hm with z | z
          · exact okb tm z
          · cases List.mem_singleton.mp z
            exact ⟨r40, by show r4 ≤ 9; omega, by show ks.length ≤ 8; omega, okk⟩
        · refine paired_snoc (L2.Paired.mapP pb8 fun a t q => q.same keep9) ⟨D, ds, ?_, ?_, L2.Paired.mapP pk fun a t q => q.same keep9⟩
          · exact of2_put ft.symm clt.symm nt0 (by rw [upd_ne ft.symm, upd_same])
          · exact of2_put fD.symm clD.symm nD0 (by rw [upd_ne fD.symm, upd_ne Dt]; exact hD9)
    · rintro σ H6 ⟨v5, v6, v7, v8, lf, rfl, B6, y6, hso6, ⟨cs, hcl6, el, lf8, w8c⟩, as, bd, hf6, eb, tot, okb, pb⟩
      have less : Same (Of1 f (Of1 cl (Nw H H6))) (Nw H H6) := (of1_less _ _).trans (of1_less _ _)
      exact ⟨_, rfl, k f bd H6 ⟨by omega, by omega, okb⟩ ⟨as, by rw [nw_eq nf0]; exact hf6, L2.Paired.mapP pb fun a t q => q.same less⟩ B6 y6⟩
end
end My
namespace My
open PySem PySem.Spec PyProof.Rows L2
open GxR (TabB TabG Tabbed)
theorem pick_all {xs : List V} {r : Int} {Φ : V → Prop} (h : ∀ v ∈ xs, Φ v) (h0 : 0 ≤ r) (h1 : r < xs.length) : ∃ v, atI xs r = some v ∧ Φ v := by
  obtain ⟨n, rfl⟩ := Int.eq_ofNat_of_zero_le h0
  have lt : n < xs.length := by omega
  exact ⟨xs[n], atI_nat (List.getElem?_eq_getElem lt), h _ (List.getElem_mem lt)⟩
theorem all_n {Φ : V → Prop} : ∀ v ∈ ([] : List V), Φ v := fun v h => nomatch h
theorem all_c {Φ : V → Prop} {x : V} {xs : List V} (h : Φ x) (r : ∀ v ∈ xs, Φ v) : ∀ v ∈ x :: xs, Φ v := fun v m => by
  rcases List.mem_cons.mp m with e | e
  · rw [e]
    exact h
  · exact r v e
theorem dI {i j : Int} : decide (V.int i = V.int j) = decide (i = j) := by
  rw [Bool.eq_iff_iff, decide_eq_true_iff, decide_eq_true_iff]
  exact ⟨fun z => V.int.inj z, fun z => congrArg V.int z⟩
theorem new_at {b l p : Addr} {H : Hp} {o : HO} (B : Bag H b l) (np : H p = none) : Off b l (upd H p o) p = some o := by
  rw [off_eq (B.nb np) (B.nl np)]
  exact upd_same
theorem Bag.new {b l p : Addr} {H : Hp} {o : HO} (B : Bag H b l) (np : H p = none) : Bag (upd H p o) b l := B.put (B.nb np) (B.nl np)
theorem ext_new {b l p : Addr} {H : Hp} {o : HO} (np : H p = none) : Ext b l H (upd H p o) := Ext.of_same (same_new np)
theorem lo_of {z : Str} (h : (z.cps.toList.all fun c => decide (c < 128)) = true) : Lo z := fun c hc => of_decide_eq_true (List.all_eq_true.mp h c hc)
theorem al {b l p : Addr} {G : Hp} (B : Bag G b l) (n : G p = none) (o : HO) : ∃ G', upd G p o = G' ∧ Bag G' b l ∧ Ext b l G G' ∧ Off b l G' p = some o := ⟨_, rfl, B.new n, ext_new n, new_at B n⟩
theorem nx_of {f r b c σ H} (h : f σ H) : ({ nx := f, rt := r, bk := b, ct := c } : Ends).nx σ H := h
theorem seq_mid {t1 t2 : TS} {D : Ends} {σ : L2.St} {H : Hp} (φ : L2.St → Hp → Prop) (h1 : ∀ N : L2.St → Hp → Prop, (∀ σ' H', φ σ' H' → N σ' H') → t1 { D with nx := N } σ H)
    (h2 : ∀ σ' H', φ σ' H' → t2 D σ' H') : tSeq t1 t2 D σ H := h1 (t2 D) h2
theorem tor_mid {t u : TT} {σ : L2.St} {H : Hp} {Q : Bool → Hp → Prop} (φ : Bool → Hp → Prop) (h1 : ∀ N : Bool → Hp → Prop, (∀ b F, φ b F → N b F) → tOr t u σ H N)
    (h2 : ∀ b F, φ b F → Q b F) : tOr t u σ H Q := h1 Q h2
theorem eqv_nil : ∀ ds : List PyData, PyData.eqv (.list ds) (.list []) = ds.isEmpty
  | [] => by rw [PyData.eqv, PyData.eqvAll]; rfl
  | _ :: _ => by rw [PyData.eqv, PyData.eqvAll]; rfl
theorem shaped_nil : SeqAt.shaped (.list []) = true := by decide +kernel
theorem take_at {α : Type} {xs : List α} {i : Nat} {x : α} (h : xs[i]? = some x) : xs.take (i + 1) = xs.take i ++ [x] := by
  rw [List.take_succ, h]
  rfl
theorem nic_ok8 {z : Str} (h : Ok8 z) : Nic 0 100 (.str z) := nic_str (by have := h.n8; omega) h.lo
/-! ### the boards' data is nice -/
theorem spn_lo : ∀ k, k < 20 → Lo (spn k) := fun k hk => by
  have h : ∀ k, k < 20 → ∀ c ∈ (spn k).cps.toList, c < 128 := by decide +kernel
  exact h k hk
theorem nic_ks {m n : Nat} {d : PyData} (h : KpS m n d) (hm : m ≤ 20) (hn : n ≤ 20) : Nic 2 2400 d := by
  obtain ⟨z, r, w, ws, rfl, hz, r1, r13, hw, w8, wl⟩ := h
  have nz : Nic 1 100 (.str z) := by
    rcases hz with z8 | ⟨k, kn, rfl⟩
    · exact (nic_ok8 z8).more (by decide) (Nat.le_refl _)
    · exact (nic_str (by rw [(spn_five k (by omega)).1]; decide) (spn_lo k (by omega))).more (by decide) (Nat.le_refl _)
  have nr : Nic 1 21 (.int r) := (nic_int (ints_le (by omega) (by omega))).more (by decide) (Nat.le_refl _)
  have nw : Nic 1 21 w := by
    rcases hw with ⟨b, rfl⟩ | rfl
    · exact (nic_bool b).more (by decide) (by decide)
    · exact (nic_int (by decide)).more (by decide) (by decide)
  have nl : Nic 1 2042 (.list (ws.map PyData.str)) := (nic_list (m := 0) (n := 100) (c := 20) (fun e he => by
    obtain ⟨y, hy, rfl⟩ := List.mem_map.mp he
    exact nic_ok8 (w8 y hy)) (by rw [List.length_map]; omega) (by decide)).more (by decide) (by decide)
  exact (nic_tup4 nz nr nw nl).more (by decide) (by decide)
theorem nic_kl {m n : Nat} {ks : List PyData} (h : ∀ k ∈ ks, KpS m n k) (l : ks.length ≤ 8) (hm : m ≤ 20) (hn : n ≤ 20) : Nic 3 20000 (.list ks) :=
  (nic_list (fun d hd => nic_ks (h d hd) hm hn) l (by decide)).more (by decide) (by decide)
theorem nic_ts {m n : Nat} {d : PyData} (h : TmS m n d) (hm : m ≤ 20) (hn : n ≤ 20) : Nic 4 21000 d := by
  obtain ⟨l, ks, rfl, h1, h2, h3⟩ := h
  exact (nic_tup2 (h1.more (by decide) (Nat.le_refl _)) (nic_kl h3 h2 hm hn)).more (by decide) (by decide)
theorem nic_ss {m n : Nat} {ds : List PyData} (h : SlS m n ds) (hm : m ≤ 20) (hn : n ≤ 20) : Nic 5 64000 (.list ds) :=
  (nic_list (fun d hd => nic_ts (h.ok d hd) hm hn) h.t3 (by decide)).more (by decide) (by decide)
theorem KpS.more {m n m' n' : Nat} {d : PyData} (h : KpS m n d) (a : m ≤ m') (b : n ≤ n') : KpS m' n' d := by
  obtain ⟨z, r, w, ws, e, hz, r1, r13, hw, w8, wl⟩ := h
  exact ⟨z, r, w, ws, e, hz.imp id fun ⟨k, kn, q⟩ => ⟨k, by omega, q⟩, r1, r13, hw, w8, by omega⟩
theorem TmS.more {m n m' n' : Nat} {d : PyData} (h : TmS m n d) (a : m ≤ m') (b : n ≤ n') : TmS m' n' d := by
  obtain ⟨l, ks, e, h1, h2, h3⟩ := h
  exact ⟨l, ks, e, h1, h2, fun k hk => (h3 k hk).more a b⟩
theorem flat_put {ds : List PyData} {t : Nat} {d d' : PyData} (e : ds[t]? = some d) (h : (kidsD d').length = (kidsD d).length) : ((ds.take t ++ [d'] ++ ds.drop (t + 1)).flatMap kidsD).length = (ds.flatMap kidsD).length := by
  have q := congrArg List.sum (lens_put e h)
  rw [lens_sum, lens_sum] at q
  have tl := (List.getElem?_eq_some_iff.mp e).1
  have l : (ds.take t ++ [d'] ++ ds.drop (t + 1)).length = ds.length := by
    rw [List.length_append, List.length_append, List.length_take, List.length_drop]
    show _ + 1 + _ = _
    omega
  omega
theorem ss_put {m n m' n' : Nat} {ds : List PyData} (h : SlS m n ds) {t : Nat} {d d' : PyData} (e : ds[t]? = some d) (q : TmS m' n' d') (k : (kidsD d').length = (kidsD d).length) (a : m ≤ m') (b : n ≤ n') : SlS m' n' (ds.take t ++ [d'] ++ ds.drop (t + 1)) := by
  have tl := (List.getElem?_eq_some_iff.mp e).1
  have t3 := h.t3
  refine ⟨by rw [List.length_append, List.length_append, List.length_take, List.length_drop]; show _ + 1 + _ ≤ _; omega, by rw [flat_put e k]; exact h.k8, fun x hx => ?_⟩
  rcases List.mem_append.mp hx with z | z
  · rcases List.mem_append.mp z with z | z
    · exact (h.ok x (List.mem_of_mem_take z)).more a b
    · rw [List.mem_singleton.mp z]
      exact q
  · exact (h.ok x (List.mem_of_mem_drop z)).more a b
theorem put_len {ks : List PyData} {k : Nat} {d : PyData} (l : k < ks.length) : (ks.take k ++ [d] ++ ks.drop (k + 1)).length = ks.length := by
  rw [List.length_append, List.length_append, List.length_take, List.length_drop]
  show _ + 1 + _ = _
  omega
theorem strs_of {K : PySem.W.Frag} {H : Hp} : ∀ {ws : List Str} {xs : List V}, DpAll K H xs (ws.map PyData.str) → xs = ws.map V.str
  | [], _, h => by cases h; rfl
  | z :: r, _, h => by
    cases h with
    | cons a q =>
      cases a
      rw [strs_of q]
      rfl
theorem three : Nic 0 60 (.str "3") := ⟨shw_str _, by decide +kernel, by decide +kernel, by decide +kernel, rfl⟩
theorem one1 : Nic 0 60 (.str "1") := ⟨shw_str _, by decide +kernel, by decide +kernel, by decide +kernel, rfl⟩
theorem empt : Nic 0 60 (.str "") := ⟨shw_str _, by decide +kernel, by decide +kernel, by decide +kernel, rfl⟩
theorem tru : Nic 0 60 (.str "True") := ⟨shw_str _, by decide +kernel, by decide +kernel, by decide +kernel, rfl⟩
theorem few_of {m n : Nat} {ds : List PyData} (h : SlS m n ds) (hm : m ≤ 20) (hn : n ≤ 20) : Few ds := by
  have t3 := h.t3
  refine ⟨by omega, fun d hd => ?_, fun d hd e he => ?_⟩
  · obtain ⟨l, ks, rfl, _, h2, _⟩ := h.ok d hd
    show ks.length ≤ 100
    omega
  · obtain ⟨l, ks, rfl, _, _, h3⟩ := h.ok d hd
    obtain ⟨z, r, w, ws, rfl, hz, _, _, _, w8, wl⟩ := h3 e he
    show (smallD (.str z) && smallL (.list (ws.map PyData.str))) = true
    have n1 : smallD (.str z) = true := by
      rcases hz with q | ⟨k, kn, rfl⟩
      · exact decide_eq_true (by have := q.n8; omega)
      · exact decide_eq_true (show (spn k).length ≤ 1000 by rw [(spn_five k (by omega)).1]; decide)
    have n2 : smallL (.list (ws.map PyData.str)) = true := by
      show (decide _ && _) = true
      rw [decide_eq_true (by rw [List.length_map]; omega), Bool.true_and, List.all_eq_true]
      intro x hx
      obtain ⟨y, hy, rfl⟩ := List.mem_map.mp hx
      exact decide_eq_true (by have := (w8 y hy).n8; omega)
    rw [n1, n2]
    rfl
def spBent (K : PySem.W.Frag) : Sp := fun vs H Q _ => ∃ (b l sa : Addr) (ds : List PyData) (m : Nat), vs = [.ref b, .ref sa] ∧ Bag H b l ∧ Dp K (Off b l H) (.ref sa) (.list ds) ∧ SlS m 0 ds ∧ 1 ≤ m ∧ m < 20 ∧
  ∀ a ds' H', SlS (m + 1) 0 ds' → Dp K (Off b l H') (.ref a) (.list ds') → Bag H' b l → Ext b l H H' → Q (.ref a) H'
theorem ok_A : Ok8 "A" := ⟨by decide +kernel, lo_of (by decide +kernel), fun e => by cases (show (1 : Nat) = 5 from e)⟩
theorem ok_a : Ok8 "a" := ⟨by decide +kernel, lo_of (by decide +kernel), fun e => by cases (show (1 : Nat) = 5 from e)⟩
section
variable {P : Program} {w : World} {K : PySem.W.Frag} {mg : Str → Option Value} {base : Heap} {A : Ad}
theorem ok_bent (T : Txt K mg A) : FnOk P w K mg base CX0 2 A.f_bent A.d_bent P_bent (spBent K) := by
  refine T.F_bent.ok sc_bent (fun vs H Q E h => ?_) (fun cdv A' outer s H vs Q E hr h => ?_)
  · obtain ⟨b, l, sa, ds, m, rfl, _⟩ := h
    rfl
  · obtain ⟨b, l, sa, ds, m, rfl, B, hs, sl, m1, m20, k⟩ := h
    refine ⟨_, (pss_cons (ps_if (pt_cmpR (eqDK (K := K) rfl hr.units) (pv 1) (pe_lst pa_nil) (nomark _))
      (pss_one (ps_ret (pv 1)))
      pss_nil)
    (pss_cons (ps_set (i := 2) sc_bent.nd rfl (Or.inl rfl) (pe_call (ok_draw T) (hr.mono (by decide)) rfl T.g_draw T.F_draw.kp T.b_draw .nil pass0 (pa_cons (pv 0) (pa_cons (pe_callB (len_seqK (K := K) rfl) (by rfl) T.n_len PySem.boot_len (pa_cons (pv 1) pa_nil)) pa_nil))))
    (pss_cons (ps_asg (pe_ix (ix_listK (K := K) rfl) (pv 1) (pv 2) (fun _ _ => rfl)) (pg_tup rfl (pgs_cons (pg_name (i := 3) sc_bent.nd rfl (Or.inl rfl)) (pgs_cons (pg_name (i := 4) sc_bent.nd rfl (Or.inl rfl)) pgs_nil))))
    (pss_cons (ps_if (PW.pt (pw_or (pt_cmpR (eqDK (K := K) rfl hr.units) (pv 4) (pe_lst pa_nil) (nomark _)) (pw_or1 (pt_cmpR op_eq (pe_call (ok_draw T) (hr.mono (by decide)) rfl T.g_draw T.F_draw.kp T.b_draw .nil pass0 (pa_cons (pv 0) (pa_cons pe_int pa_nil))) pe_int (nomark _)))))
      (pss_one (ps_ret (pe_op (op_catL (K := K) rfl) (pe_op (op_catL (K := K) rfl) (pe_slice (sl_listK (K := K) rfl) (pv 1) po_none (po_some (pv 2))) (pe_lst (pa_cons (pe_tup (pa_cons (pe_ix (ix_listK (K := K) rfl) (pe_lst (pa_cons (pe_op op_add (pe_callB (len_seqK (K := K) rfl) (by rfl) T.n_len PySem.boot_len (pa_cons (pv 4) pa_nil)) pe_int) (pa_cons (pe_un un_neg pe_int) (pa_cons pe_str (pa_cons pe_bl pa_nil))))) (pe_call (ok_draw T) (hr.mono (by decide)) rfl T.g_draw T.F_draw.kp T.b_draw .nil pass0 (pa_cons (pv 0) (pa_cons pe_int pa_nil))) (fun _ _ => rfl)) (pa_cons (pv 4) pa_nil))) pa_nil))) (pe_slice (sl_listK (K := K) rfl) (pv 1) (po_some (pe_op op_add (pv 2) pe_int)) po_none))))
      pss_nil)
    (pss_cons (ps_set (i := 5) sc_bent.nd rfl (Or.inl rfl) (pe_call (ok_draw T) (hr.mono (by decide)) rfl T.g_draw T.F_draw.kp T.b_draw .nil pass0 (pa_cons (pv 0) (pa_cons (pe_callB (len_seqK (K := K) rfl) (by rfl) T.n_len PySem.boot_len (pa_cons (pv 4) pa_nil)) pa_nil))))
    (pss_cons (ps_asg (pe_ix (ix_listK (K := K) rfl) (pv 4) (pv 5) (fun _ _ => rfl)) (pg_tup rfl (pgs_cons (pg_name (i := 6) sc_bent.nd rfl (Or.inl rfl)) (pgs_cons (pg_name (i := 7) sc_bent.nd rfl (Or.inl rfl)) (pgs_cons (pg_name (i := 8) sc_bent.nd rfl (Or.inl rfl)) (pgs_cons (pg_name (i := 9) sc_bent.nd rfl (Or.inl rfl)) pgs_nil))))))
    (pss_cons (ps_set (i := 10) sc_bent.nd rfl (Or.inl rfl) (pe_lst (pa_cons (pe_tup (pa_cons pe_str (pa_cons (pv 7) (pa_cons (pv 8) (pa_cons (pv 9) pa_nil))))) (pa_cons (pe_tup (pa_cons (pv 6) (pa_cons pe_int (pa_cons (pv 8) (pa_cons (pv 9) pa_nil))))) (pa_cons (pe_tup (pa_cons (pv 6) (pa_cons (pv 7) (pa_cons pe_int (pa_cons (pv 9) pa_nil))))) (pa_cons (pe_tup (pa_cons (pv 6) (pa_cons (pv 7) (pa_cons (pv 8) (pa_cons (pe_op (op_catL (K := K) rfl) (pv 9) (pe_lst (pa_cons pe_str pa_nil))) pa_nil))))) pa_nil))))))
    (pss_cons (ps_set (i := 11) sc_bent.nd rfl (Or.inl rfl) (pe_ifExp (pt_cmpR (neDK (K := K) rfl hr.units) (pe_ix (ix_tupK (K := K) rfl) (pe_ix (ix_listK (K := K) rfl) (pv 1) pe_int (fun _ _ => rfl)) pe_int (fun _ _ => rfl)) (pe_lst pa_nil) (nomark _)) (pe_ix (ix_tupK (K := K) rfl) (pe_ix (ix_listK (K := K) rfl) (pe_ix (ix_tupK (K := K) rfl) (pe_ix (ix_listK (K := K) rfl) (pv 1) pe_int (fun _ _ => rfl)) pe_int (fun _ _ => rfl)) pe_int (fun _ _ => rfl)) pe_int (fun _ _ => rfl)) pe_str))
    (pss_cons (ps_set (i := 10) sc_bent.nd rfl (Or.inl rfl) (pe_op (op_catL (K := K) rfl) (pv 10) (pe_lst (pa_cons (pe_tup (pa_cons (pe_ix (ix_tupK (K := K) rfl) (pe_ix (ix_listK (K := K) rfl) (pv 4) pe_int (fun _ _ => rfl)) pe_int (fun _ _ => rfl)) (pa_cons (pv 7) (pa_cons (pv 8) (pa_cons (pv 9) pa_nil))))) (pa_cons (pe_tup (pa_cons (pv 11) (pa_cons (pv 7) (pa_cons (pv 8) (pa_cons (pv 9) pa_nil))))) pa_nil)))))
    (pss_one (ps_ret (pe_op (op_catL (K := K) rfl) (pe_op (op_catL (K := K) rfl) (pe_slice (sl_listK (K := K) rfl) (pv 1) po_none (po_some (pv 2))) (pe_lst (pa_cons (pe_tup (pa_cons (pv 3) (pa_cons (pe_op (op_catL (K := K) rfl) (pe_op (op_catL (K := K) rfl) (pe_slice (sl_listK (K := K) rfl) (pv 4) po_none (po_some (pv 5))) (pe_lst (pa_cons (pe_ix (ix_listK (K := K) rfl) (pv 10) (pe_call (ok_draw T) (hr.mono (by decide)) rfl T.g_draw T.F_draw.kp T.b_draw .nil pass0 (pa_cons (pv 0) (pa_cons pe_int pa_nil))) (fun _ _ => rfl)) pa_nil))) (pe_slice (sl_listK (K := K) rfl) (pv 4) (po_some (pe_op op_add (pv 5) pe_int)) po_none)) pa_nil))) pa_nil))) (pe_slice (sl_listK (K := K) rfl) (pv 1) (po_some (pe_op op_add (pv 2) pe_int)) po_none))))))))))))), ?_⟩
    have off := off_same b l
    have sz : ∀ n : Nat, n ≤ 1000 → n ≤ sizeLine := fun n h => Nat.le_of_lt (small1000 h)
    refine ⟨_, rfl, (show 0 ≤ sizeLine by decide), fun q0 n0 => ?_⟩
    obtain ⟨H0, g0, B0, w0, h0⟩ := al B n0 (.lst [])
    rw [g0]
    refine ⟨.list ds, .list [], dp_same (off _) (dp_same w0 hs), .lst (SqL.of (off _ _ _ h0)) .nil, (nic_ss sl (by omega) (by decide)).shaped (by decide), shaped_nil, _, rfl, ?_⟩
    rw [eqv_nil]
    cases he : ds.isEmpty with
    | true =>
      refine iteT ?_
      exact ⟨_, rfl, k sa ds H0 ⟨sl.t3, sl.k8, fun d hd => (sl.ok d hd).more (by omega) (Nat.le_refl _)⟩ (dp_same w0 hs) B0 w0⟩
    | false =>
      refine iteF ?_
      have pos : 0 < ds.length := by
        cases ds with
        | nil => cases he
        | cons _ _ => exact Nat.succ_pos _
      have t3 := sl.t3
      cases hs with
      | @lst _ xs _ qs hxs =>
        have lx := dps_len hxs
        have slAt : ∀ {G : Hp}, Ext b l H G → SqL K G sa xs := fun x => sqL_std (same_std (off _)) (sqL_std (same_std x) qs)
        refine ⟨_, rfl, _, rfl, sa, _, rfl, .inl (slAt w0), b, l, _, rfl, B0, by omega, by omega, fun tt H1 r0 r1 B1 x1 => ?_⟩
        obtain ⟨tn, rfl⟩ := Int.eq_ofNat_of_zero_le r0
        have tl : tn < ds.length := by omega
        have e1 : ((tn : Nat) : Int) + 1 = ((tn + 1 : Nat) : Int) := rfl
        have x1 := w0.trans x1
        have edt : ds[tn]? = some ds[tn] := List.getElem?_eq_getElem tl
        obtain ⟨vt, evt, hvt⟩ := dps_get hxs edt
        obtain ⟨le, ks, eq, nl, k8, kok⟩ := sl.ok _ (List.getElem_mem tl)
        rw [eq] at hvt edt
        cases hvt with
        | @tup ta zs _ qt pt =>
          obtain ⟨vl, vk, f1, f2, rfl, ee, hvl, hvk⟩ := two pt (dps_len pt)
          cases ee
          cases hvk with
          | @lst c ys _ qc pc =>
            have ly := dps_len pc
            have kAt : ∀ {G : Hp}, Ext b l H G → SqL K G c ys := fun x => sqL_std (same_std (off _)) (sqL_std (same_std x) qc)
            refine ⟨_, rfl, _, rfl, sa, _, _, _, rfl, rfl, slAt x1, atI_nat evt, ta, _, rfl, sqT_std (same_std (off _)) (sqT_std (same_std x1) qt), rfl, _, _, rfl, _, _, rfl, rfl, ?_⟩
            refine nx_of ?_
            refine seq_mid (fun σ' G' => Bag G' b l ∧ Ext b l H G' ∧ ks ≠ [] ∧ ∃ v5 v6 v7 v8 v9 va vb, σ' = [some (.ref b), some (.ref sa), some (.int (tn : Nat)), some vl, some (.ref c), v5, v6, v7, v8, v9, va, vb]) (fun N hN => ?_) ?_
            · show tOr _ _ _ _ _
              refine tor_mid (fun bb G => Bag G b l ∧ Ext b l H G ∧ (bb = false → ks ≠ [])) (fun M hM => ?_) ?_
              · refine ⟨_, rfl, (show 0 ≤ sizeLine by decide), fun q1 n1 => ?_⟩
                obtain ⟨H2, g2, B2, w2, h2⟩ := al B1 n1 (.lst [])
                rw [g2]
                have x2 := x1.trans w2
                refine ⟨.list ks, .list [], .lst (kAt x2) (dps_same (off _) (dps_same x2 pc)), .lst (SqL.of (off _ _ _ h2)) .nil, (nic_kl kok k8 (by omega) (by decide)).shaped (by decide), shaped_nil, _, rfl, ?_⟩
                rw [eqv_nil]
                cases hk : ks.isEmpty with
                | true => exact iteT (hM _ _ ⟨B2, x2, fun e => nomatch e⟩)
                | false =>
                  refine iteF ?_
                  refine ⟨_, rfl, b, l, 4, rfl, B2, by decide, by decide, fun r H3 r0 r1 B3 x3 => ⟨rfl, _, rfl, hM _ _ ⟨B3, x2.trans x3, fun _ e => ?_⟩⟩⟩
                  rw [e] at hk
                  cases hk
              · rintro bb G ⟨BG, xG, hks⟩
                cases bb with
                | false =>
                  refine iteF ?_
                  exact hN _ _ ⟨BG, xG, hks rfl, _, _, _, _, _, _, _, rfl⟩
                | true =>
                  refine iteT ?_
                  -- board[:t] + [([..][draw], keepers)] + board[t + 1:]
                  refine ⟨_, rfl, _, rfl, _, rfl, sa, _, rfl, slAt xG, fun a1 n1 => ?_⟩
                  rw [cut_take]
                  obtain ⟨S1, s1, C1, w1, i1⟩ := al BG n1 (.lst (xs.take tn))
                  rw [s1]
                  have xs1 := xG.trans w1
                  refine ⟨_, rfl, c, _, rfl, .inl (kAt xs1), _, _, rfl, rfl, 1, rfl, (show 4 ≤ sizeLine by decide), fun q n => ?_⟩
                  obtain ⟨Sq, sq, Cq, wq, iq⟩ := al C1 n (.lst [V.int (ys.length + 1), .int (-1), .str "1", .bl true])
                  rw [sq]
                  refine ⟨_, rfl, b, l, 4, rfl, Cq, by decide, by decide, fun r' Hf r0' r1' Bf xf => ?_⟩
                  obtain ⟨v, hv, d, hd, nd⟩ := pick_all (Φ := fun v => ∃ d, (∀ {G : Hp}, Dp K G v d) ∧ Nic 1 60 d) (all_c ⟨.int ((ys.length : Nat) + 1), .int _, (nic_int (ints_le (by omega) (by omega))).more (by decide) (by decide)⟩ (all_c ⟨.int (-1), .int _, (nic_int (by decide)).more (by decide) (by decide)⟩
                    (all_c ⟨_, .str _, one1.more (by decide) (by decide)⟩ (all_c ⟨_, .bl _, (nic_bool true).more (by decide) (by decide)⟩ all_n)))) r0' r1'
                  refine ⟨q, _, _, v, rfl, rfl, SqL.of (off _ _ _ (xf _ _ iq)), hv, _, rfl, (show 2 ≤ sizeLine by decide), fun a2 n2 => ?_⟩
                  obtain ⟨S2, s2, C2, w2, i2⟩ := al Bf n2 (.tup [v, .ref c])
                  rw [s2]
                  have xs2 := xs1.trans (wq.trans (xf.trans w2))
                  refine ⟨(show 1 ≤ sizeLine by decide), fun a3 n3 => ?_⟩
                  obtain ⟨S3, s3, C3, w3, i3⟩ := al C2 n3 (.lst [V.ref a2])
                  rw [s3]
                  refine ⟨a1, a3, _, _, rfl, rfl, SqL.of (off _ _ _ (((wq.trans (xf.trans w2)).trans w3) _ _ i1)), SqL.of (off _ _ _ i3), sz _ (by rw [List.length_take]; show _ + 1 ≤ _; omega), fun a4 n4 => ?_⟩
                  obtain ⟨S4, s4, C4, w4, i4⟩ := al C3 n4 (.lst (xs.take tn ++ [V.ref a2]))
                  rw [s4]
                  have xs4 := xs2.trans (w3.trans w4)
                  refine ⟨_, rfl, _, rfl, _, _, rfl, rfl, _, rfl, sa, _, rfl, slAt xs4, fun a5 n5 => ?_⟩
                  rw [e1, cut_drop]
                  obtain ⟨S5, s5, C5, w5, i5⟩ := al C4 n5 (.lst (xs.drop (tn + 1)))
                  rw [s5]
                  refine ⟨a4, a5, _, _, rfl, rfl, SqL.of (off _ _ _ (w5 _ _ i4)), SqL.of (off _ _ _ i5), sz _ (by rw [List.length_append, List.length_take, List.length_drop]; show _ + 1 + _ ≤ _; omega), fun a6 n6 => ?_⟩
                  obtain ⟨S6, s6, C6, w6, i6⟩ := al C5 n6 (.lst (xs.take tn ++ [V.ref a2] ++ xs.drop (tn + 1)))
                  rw [s6]
                  have xs6 := xs4.trans (w5.trans w6)
                  have z26 := w3.trans (w4.trans (w5.trans w6))
                  have y2 := z26
                  have hx6 := dps_same xs6 hxs
                  refine k a6 _ S6 (ss_put sl edt (d' := .tuple [d, .list ks]) ⟨_, _, rfl, nd, k8, fun x hx => (kok x hx).more (by omega) (Nat.le_refl _)⟩ rfl (by omega) (Nat.le_refl _)) (.lst (SqL.of i6) (dps_app (dps_app (dps_take hx6 tn) (dps_one (.tup (SqT.of (y2 _ _ i2)) (.cons hd (.cons (.lst (sqL_std (same_std xs6) qc) (dps_same xs6 pc)) .nil))))) (dps_drop hx6 (tn + 1)))) C6 xs6
            · rintro σ' G ⟨BG, xG, hks, v5, v6, v7, v8, v9, va, vb, rfl⟩
              have kpos : 0 < ks.length := List.length_pos_iff.mpr hks
              refine ⟨_, rfl, _, rfl, c, _, rfl, .inl (kAt xG), b, l, _, rfl, BG, by omega, by omega, fun kk G1 r0 r1 B1' x1' => ?_⟩
              obtain ⟨kn, rfl⟩ := Int.eq_ofNat_of_zero_le r0
              have kl : kn < ks.length := by omega
              have e2 : ((kn : Nat) : Int) + 1 = ((kn + 1 : Nat) : Int) := rfl
              have x1 := xG.trans x1'
              obtain ⟨vk, evk, hvk⟩ := dps_get pc (List.getElem?_eq_getElem kl)
              have kd := kok _ (List.getElem_mem kl)
              obtain ⟨nm, rm, dw, ws, ekd, hnm, rm1, rm13, hw, w8, wl⟩ := id kd
              rw [ekd] at hvk
              have onm : Ok8 nm := by
                rcases hnm with q | ⟨j, jn, _⟩
                · exact q
                · omega
              cases hvk with
              | @tup ka us _ qk pk =>
                obtain ⟨u1, u2, u3, u4, f1, f2, f3, f4, rfl, ee, h1, h2, h3, h4⟩ := four pk (dps_len pk)
                cases ee
                cases h1
                cases h2
                cases h4 with
                | @lst r rs _ qr pr =>
                  obtain rfl := strs_of pr
                  have rowAt : ∀ {G : Hp}, Ext b l H G → SqL K G r (ws.map V.str) := fun x => sqL_std (same_std (off _)) (sqL_std (same_std x) qr)
                  have rowD : ∀ {G : Hp}, Ext b l H G → Dp K (Off b l G) (.ref r) (.list (ws.map PyData.str)) := fun x => .lst (sqL_std (same_std x) qr) (dp_strs ws)
                  have whoD : ∀ {G : Hp}, Ext b l H G → Dp K (Off b l G) u3 dw := fun x => dp_same x h3
                  have mk : ∀ {z : Str} {r : Int} {w : PyData} {vs : List Str}, Ok8 z → 1 ≤ r → r ≤ 13 → ((∃ b, w = .bool b) ∨ w = .int 1) → W8 vs → vs.length ≤ m + 1 → KpS (m + 1) 0 (.tuple [.str z, .int r, w, .list (vs.map PyData.str)]) := fun a b c d e f => ⟨_, _, _, _, rfl, .inl a, b, c, d, e, f⟩
                  refine ⟨_, rfl, _, rfl, c, _, _, _, rfl, rfl, kAt x1, atI_nat evk, ka, _, rfl, sqT_std (same_std (off _)) (sqT_std (same_std x1) qk), rfl, _, _, rfl, _, _, rfl, _, _, rfl, _, _, rfl, rfl, ?_⟩
                  -- some
                  refine ⟨_, rfl, _, rfl, _, rfl, (show 4 ≤ sizeLine by decide), fun t1 n1 => ?_⟩
                  obtain ⟨G2, g2, B2, w2, i2⟩ := al B1' n1 (.tup [V.str "A", .int rm, u3, .ref r])
                  rw [g2]
                  refine ⟨_, rfl, _, rfl, _, rfl, (show 4 ≤ sizeLine by decide), fun t2 n2 => ?_⟩
                  obtain ⟨G3, g3, B3, w3, i3⟩ := al B2 n2 (.tup [V.str nm, .int 13, u3, .ref r])
                  rw [g3]
                  refine ⟨_, rfl, _, rfl, _, rfl, (show 4 ≤ sizeLine by decide), fun t3' n3 => ?_⟩
                  obtain ⟨G4, g4, B4, w4, i4⟩ := al B3 n3 (.tup [V.str nm, .int rm, .int 1, .ref r])
                  rw [g4]
                  have x4 := x1.trans (w2.trans (w3.trans w4))
                  refine ⟨_, rfl, _, rfl, _, rfl, _, rfl, (show 1 ≤ sizeLine by decide), fun a1 o1 => ?_⟩
                  obtain ⟨G5, g5, B5, w5, i5⟩ := al B4 o1 (.lst [V.str "A"])
                  rw [g5]
                  refine ⟨r, a1, _, _, rfl, rfl, rowAt (x4.trans w5), SqL.of (off _ _ _ i5), sz _ (by rw [List.length_map]; show _ + 1 ≤ _; omega), fun a2 o2 => ?_⟩
                  obtain ⟨G6, g6, B6, w6, i6⟩ := al B5 o2 (.lst (ws.map V.str ++ [V.str "A"]))
                  rw [g6]
                  refine ⟨(show 4 ≤ sizeLine by decide), fun t4 n4 => ?_⟩
                  obtain ⟨G7, g7, B7, w7, i7⟩ := al B6 n4 (.tup [V.str nm, .int rm, u3, .ref a2])
                  rw [g7]
                  refine ⟨(show 4 ≤ sizeLine by decide), fun q n => ?_⟩
                  obtain ⟨G8, g8, B8, w8', i8⟩ := al B7 n (.lst [V.ref t1, .ref t2, .ref t3', .ref t4])
                  rw [g8]
                  have y7 := w8'
                  have y6 := w7.trans y7
                  have y4 := w5.trans (w6.trans y6)
                  have y3 := w4.trans y4
                  have y2 := w3.trans y3
                  have x8 := x4.trans y4
                  have all4 : ∀ v ∈ [V.ref t1, .ref t2, .ref t3', .ref t4], ∃ d, Dp K (Off b l G8) v d ∧ KpS (m + 1) 0 d :=
                    all_c ⟨_, .tup (SqT.of (y2 _ _ i2)) (.cons (.str _) (.cons (.int _) (.cons (whoD x8) (.cons (rowD x8) .nil)))), mk ok_A rm1 rm13 hw w8 (by omega)⟩
                    (all_c ⟨_, .tup (SqT.of (y3 _ _ i3)) (.cons (.str _) (.cons (.int _) (.cons (whoD x8) (.cons (rowD x8) .nil)))), mk onm (by decide) (by decide) hw w8 (by omega)⟩
                    (all_c ⟨_, .tup (SqT.of (y4 _ _ i4)) (.cons (.str _) (.cons (.int _) (.cons (.int 1) (.cons (rowD x8) .nil)))), mk onm rm1 rm13 (.inr rfl) w8 (by omega)⟩
                    (all_c ⟨_, .tup (SqT.of (y7 _ _ i7)) (.cons (.str _) (.cons (.int _) (.cons (whoD x8) (.cons (.lst (SqL.of (y6 _ _ i6)) (dps_app (dp_strs ws) (dps_one (.str "A")))) .nil)))), by
                      have q := mk (z := nm) (r := rm) (w := dw) (vs := ws ++ (["A"] : List Str)) onm rm1 rm13 hw (w8.snoc ok_A) (by rw [List.length_append]; show _ + 1 ≤ _; omega)
                      rw [List.map_append] at q
                      exact q⟩ all_n)))
                  -- elder
                  obtain ⟨v0, ev0, hv0⟩ := dps_get hxs (List.getElem?_eq_getElem pos)
                  obtain ⟨le0, ks0, eq0, nl0, k80, kok0⟩ := sl.ok _ (List.getElem_mem pos)
                  rw [eq0] at hv0
                  cases hv0 with
                  | @tup ta0 zs0 _ qt0 pt0 =>
                    obtain ⟨vl0, vk0, f1, f2, rfl, ee, hvl0, hvk0⟩ := two pt0 (dps_len pt0)
                    cases ee
                    cases hvk0 with
                    | @lst c0 ys0 _ qc0 pc0 =>
                      refine ⟨_, rfl, sa, _, _, _, rfl, rfl, slAt x8, atI_nat (j := 0) ev0, ta0, _, _, _, rfl, rfl, sqT_std (same_std (off _)) (sqT_std (same_std x8) qt0), rfl, (show 0 ≤ sizeLine by decide), fun qz nz => ?_⟩
                      obtain ⟨G9, g9, B9, w9, i9⟩ := al B8 nz (.lst [])
                      rw [g9]
                      have x9 := x8.trans w9
                      have k0At : ∀ {G : Hp}, Ext b l H G → SqL K G c0 ys0 := fun x => sqL_std (same_std (off _)) (sqL_std (same_std x) qc0)
                      refine ⟨.list ks0, .list [], .lst (k0At x9) (dps_same (off _) (dps_same x9 pc0)), .lst (SqL.of (off _ _ _ i9)) .nil, (nic_kl kok0 k80 (by omega) (by decide)).shaped (by decide), shaped_nil, _, rfl, ?_⟩
                      rw [eqv_nil]
                      refine join2 (fun v F => (∃ z, v = .str z ∧ Ok8 z) ∧ F = G9) ?_ (fun hq => ?_)
                      rotate_left
                      · cases h0 : ks0.isEmpty with
                        | true => exact iteF (hq _ _ ⟨⟨_, rfl, ok_a⟩, rfl⟩)
                        | false =>
                          refine iteT ?_
                          have p0 : 0 < ks0.length := by
                            cases ks0 with
                            | nil => cases h0
                            | cons _ _ => exact Nat.succ_pos _
                          obtain ⟨vz, evz, hvz⟩ := dps_get pc0 (List.getElem?_eq_getElem p0)
                          obtain ⟨zn, _, _, _, ez, hz, _⟩ := kok0 _ (List.getElem_mem p0)
                          rw [ez] at hvz
                          cases hvz with
                          | @tup kz uz _ qz' pz =>
                            obtain ⟨z1, z2, z3, z4, f1, f2, f3, f4, rfl, ee, g1', _, _, _⟩ := four pz (dps_len pz)
                            cases ee
                            cases g1'
                            refine ⟨_, rfl, sa, _, _, _, rfl, rfl, slAt x9, atI_nat (j := 0) ev0, ta0, _, _, _, rfl, rfl, sqT_std (same_std (off _)) (sqT_std (same_std x9) qt0), rfl, c0, _, _, _, rfl, rfl, k0At x9, atI_nat (j := 0) evz, kz, _, _, _, rfl, rfl, sqT_std (same_std (off _)) (sqT_std (same_std x9) qz'), rfl, hq _ _ ⟨⟨_, rfl, ?_⟩, rfl⟩⟩
                            rcases hz with q | ⟨j, jn, _⟩
                            · exact q
                            · omega
                      · rintro v F ⟨⟨ez, rfl, oez⟩, rfl⟩
                        -- some + [..]
                        obtain ⟨vz, evz, hvz⟩ := dps_get pc (List.getElem?_eq_getElem kpos)
                        obtain ⟨zn, _, _, _, ezk, hz, _⟩ := kok _ (List.getElem_mem kpos)
                        rw [ezk] at hvz
                        have ozn : Ok8 zn := by
                          rcases hz with q | ⟨j, jn, _⟩
                          · exact q
                          · omega
                        cases hvz with
                        | @tup kz uz _ qz' pz =>
                          obtain ⟨z1, z2, z3, z4, f1, f2, f3, f4, rfl, ee, g1', _, _, _⟩ := four pz (dps_len pz)
                          cases ee
                          cases g1'
                          refine ⟨_, rfl, _, rfl, c, _, _, _, rfl, rfl, kAt x9, atI_nat (j := 0) evz, kz, _, _, _, rfl, rfl, sqT_std (same_std (off _)) (sqT_std (same_std x9) qz'), rfl, _, rfl, _, rfl, _, rfl, (show 4 ≤ sizeLine by decide), fun t5 n5 => ?_⟩
                          obtain ⟨Ga, ga, Ba, wa, ia⟩ := al B9 n5 (.tup [V.str zn, .int rm, u3, .ref r])
                          rw [ga]
                          refine ⟨_, rfl, _, rfl, _, rfl, _, rfl, (show 4 ≤ sizeLine by decide), fun t6 n6 => ?_⟩
                          obtain ⟨Gb, gb, Bb, wb, ib⟩ := al Ba n6 (.tup [V.str ez, .int rm, u3, .ref r])
                          rw [gb]
                          refine ⟨(show 2 ≤ sizeLine by decide), fun q2 nq2 => ?_⟩
                          obtain ⟨Gc, gc, Bc, wc, ic⟩ := al Bb nq2 (.lst [V.ref t5, .ref t6])
                          rw [gc]
                          refine ⟨q, q2, _, _, rfl, rfl, SqL.of (off _ _ _ ((w9.trans (wa.trans (wb.trans wc))) _ _ i8)), SqL.of (off _ _ _ ic), (show 6 ≤ sizeLine by decide), fun q3 nq3 => ?_⟩
                          obtain ⟨Gd, gd', Bd, wd, id'⟩ := al Bc nq3 (.lst ([V.ref t1, .ref t2, .ref t3', .ref t4] ++ [V.ref t5, .ref t6]))
                          rw [gd']
                          have yc := wc.trans wd
                          have yb := wb.trans yc
                          have y9 := w9.trans (wa.trans yb)
                          have xd := x8.trans y9
                          have all6 : ∀ v ∈ [V.ref t1, .ref t2, .ref t3', .ref t4] ++ [V.ref t5, .ref t6], ∃ d, Dp K (Off b l Gd) v d ∧ KpS (m + 1) 0 d := fun v hv => by
                            rcases List.mem_append.mp hv with z | z
                            · obtain ⟨d, q1, q2⟩ := all4 v z
                              exact ⟨d, dp_same y9 q1, q2⟩
                            · exact (all_c (Φ := fun v => ∃ d, Dp K (Off b l Gd) v d ∧ KpS (m + 1) 0 d) ⟨_, .tup (SqT.of (yb _ _ ia)) (.cons (.str _) (.cons (.int _) (.cons (whoD xd) (.cons (rowD xd) .nil)))), mk ozn rm1 rm13 hw w8 (by omega)⟩
                                (all_c ⟨_, .tup (SqT.of (yc _ _ ib)) (.cons (.str _) (.cons (.int _) (.cons (whoD xd) (.cons (rowD xd) .nil)))), mk oez rm1 rm13 hw w8 (by omega)⟩ all_n)) v z
                          -- board[:t] + [(least, keepers[:k] + [some[draw]] + keepers[k + 1:])] + board[t + 1:]
                          refine ⟨_, rfl, _, rfl, _, rfl, sa, _, rfl, slAt xd, fun a1' n1' => ?_⟩
                          rw [cut_take]
                          obtain ⟨S1, s1, C1, w1, i1⟩ := al Bd n1' (.lst (xs.take tn))
                          rw [s1]
                          have xs1 := xd.trans w1
                          refine ⟨_, rfl, _, rfl, _, rfl, _, rfl, c, _, rfl, kAt xs1, fun b2 o2' => ?_⟩
                          rw [cut_take]
                          obtain ⟨Q2, p2, D2, v2, k2⟩ := al C1 o2' (.lst (ys.take kn))
                          rw [p2]
                          refine ⟨_, rfl, _, rfl, b, l, 6, rfl, D2, by decide, by decide, fun r' Hf r0' r1' Bf xf => ?_⟩
                          obtain ⟨v, hv, d, hd, nd⟩ := pick_all all6 r0' r1'
                          refine ⟨q3, _, _, v, rfl, rfl, SqL.of (off _ _ _ ((w1.trans (v2.trans xf)) _ _ id')), hv, (show 1 ≤ sizeLine by decide), fun b3 o3 => ?_⟩
                          obtain ⟨Q3, p3, D3, v3, k3⟩ := al Bf o3 (.lst [v])
                          rw [p3]
                          refine ⟨b2, b3, _, _, rfl, rfl, SqL.of (off _ _ _ ((xf.trans v3) _ _ k2)), SqL.of (off _ _ _ k3), sz _ (by rw [List.length_take]; show _ + 1 ≤ _; omega), fun b4 o4 => ?_⟩
                          obtain ⟨Q4, p4, D4, v4, k4⟩ := al D3 o4 (.lst (ys.take kn ++ [v]))
                          rw [p4]
                          have c4 := xs1.trans (v2.trans (xf.trans (v3.trans v4)))
                          refine ⟨_, rfl, _, rfl, _, _, rfl, rfl, _, rfl, c, _, rfl, kAt c4, fun b5 o5 => ?_⟩
                          rw [e2, cut_drop]
                          obtain ⟨Q5, p5, D5, v5', k5⟩ := al D4 o5 (.lst (ys.drop (kn + 1)))
                          rw [p5]
                          refine ⟨b4, b5, _, _, rfl, rfl, SqL.of (off _ _ _ (v5' _ _ k4)), SqL.of (off _ _ _ k5), sz _ (by rw [List.length_append, List.length_take, List.length_drop]; show _ + 1 + _ ≤ _; omega), fun b6 o6 => ?_⟩
                          obtain ⟨Q6, p6, D6, v6', k6⟩ := al D5 o6 (.lst (ys.take kn ++ [v] ++ ys.drop (kn + 1)))
                          rw [p6]
                          refine ⟨(show 2 ≤ sizeLine by decide), fun a2' n2' => ?_⟩
                          obtain ⟨S2, s2, C2, w2', i2'⟩ := al D6 n2' (.tup [vl, .ref b6])
                          rw [s2]
                          have mid := v2.trans (xf.trans (v3.trans (v4.trans (v5'.trans v6'))))
                          have xs2 := xs1.trans (mid.trans w2')
                          refine ⟨(show 1 ≤ sizeLine by decide), fun a3 n3' => ?_⟩
                          obtain ⟨S3, s3, C3, w3', i3'⟩ := al C2 n3' (.lst [V.ref a2'])
                          rw [s3]
                          refine ⟨a1', a3, _, _, rfl, rfl, SqL.of (off _ _ _ (((mid.trans w2').trans w3') _ _ i1)), SqL.of (off _ _ _ i3'), sz _ (by rw [List.length_take]; show _ + 1 ≤ _; omega), fun a4 n4' => ?_⟩
                          obtain ⟨S4, s4, C4, w4', i4'⟩ := al C3 n4' (.lst (xs.take tn ++ [V.ref a2']))
                          rw [s4]
                          have xs4 := xs2.trans (w3'.trans w4')
                          refine ⟨_, rfl, _, rfl, _, _, rfl, rfl, _, rfl, sa, _, rfl, slAt xs4, fun a5 n5' => ?_⟩
                          rw [e1, cut_drop]
                          obtain ⟨S5, s5, C5, w5', i5'⟩ := al C4 n5' (.lst (xs.drop (tn + 1)))
                          rw [s5]
                          refine ⟨a4, a5, _, _, rfl, rfl, SqL.of (off _ _ _ (w5' _ _ i4')), SqL.of (off _ _ _ i5'), sz _ (by rw [List.length_append, List.length_take, List.length_drop]; show _ + 1 + _ ≤ _; omega), fun a6 n6' => ?_⟩
                          obtain ⟨S6, s6, C6, w6', i6'⟩ := al C5 n6' (.lst (xs.take tn ++ [V.ref a2'] ++ xs.drop (tn + 1)))
                          rw [s6]
                          have xs6 := xs4.trans (w5'.trans w6')
                          have z26 := w3'.trans (w4'.trans (w5'.trans w6'))
                          have y2 := z26
                          have hx6 := dps_same xs6 hxs
                          have hvb := dp_same ((w1.trans (v2.trans xf)).trans ((v3.trans (v4.trans (v5'.trans v6'))).trans (w2'.trans z26))) hd
                          have pc6 := dps_same xs6 pc
                          have hnew : Dp K (Off b l S6) (.ref b6) (.list (ks.take kn ++ [d] ++ ks.drop (kn + 1))) := .lst (SqL.of ((w2'.trans z26) _ _ k6)) (dps_app (dps_app (dps_take pc6 kn) (dps_one hvb)) (dps_drop pc6 (kn + 1)))
                          refine k a6 _ S6 (ss_put sl edt (d' := .tuple [le, .list (ks.take kn ++ [d] ++ ks.drop (kn + 1))]) ⟨_, _, rfl, nl, by rw [put_len kl]; exact k8, fun x hx => ?_⟩ (put_len kl) (by omega) (Nat.le_refl _)) (.lst (SqL.of i6') (dps_app (dps_app (dps_take hx6 tn) (dps_one (.tup (SqT.of (z26 _ _ i2')) (.cons (dp_same xs6 hvl) (.cons hnew .nil))))) (dps_drop hx6 (tn + 1)))) C6 xs6
                          rcases List.mem_append.mp hx with z | z
                          · rcases List.mem_append.mp z with z | z
                            · exact (kok x (List.mem_of_mem_take z)).more (by omega) (Nat.le_refl _)
                            · rw [List.mem_singleton.mp z]
                              exact nd
                          · exact (kok x (List.mem_of_mem_drop z)).more (by omega) (Nat.le_refl _)
end
end My
namespace My
open PySem PySem.Spec PyProof.Rows L2
open GxR (TabB TabG Tabbed)
/-! ### a list that grows or shrinks, all else stands -/
abbrev Ex (p : Addr) (H H' : Hp) : Prop := Same (Of1 p H) (Of1 p H')
theorem ex_put {p : Addr} {G : Hp} {o : HO} : Ex p G (upd G p o) := fun c u h => by
  obtain ⟨h1, h2⟩ := of1_some h
  rw [of1_eq h1, upd_ne h1]
  exact h2
theorem al1 {p q : Addr} {G : Hp} {u : HO} (hp : G p = some u) (n : G q = none) (o : HO) : ∃ G', upd G q o = G' ∧ Ex p G G' ∧ Of1 p G' q = some o ∧ G' p = some u := by
  have ne : p ≠ q := ne_of_none hp n
  exact ⟨_, rfl, of1_same (same_new n), by rw [of1_eq ne.symm]; exact upd_same, by rw [upd_ne ne]; exact hp⟩
theorem same_ex {p : Addr} {G G' : Hp} {u : HO} (x : Ex p G G') (h : G p = some u) (h' : G' p = some u) : Same G G' := fun c o e => by
  by_cases z : c = p
  · rw [z] at e ⊢
    rw [h] at e
    cases e
    exact h'
  · have q := x c o (by rw [of1_eq z]; exact e)
    rw [of1_eq z] at q
    exact q
theorem al0 {G : Hp} {q : Addr} (n : G q = none) (o : HO) : ∃ G', upd G q o = G' ∧ Same G G' ∧ G' q = some o := ⟨_, rfl, same_new n, upd_same⟩
def spPlace : Sp := fun vs H Q _ => ∃ (q : Addr) (f : Flt), vs = [.ref q] ∧ H q = some (.tup (fltV f)) ∧ ∀ p H', H p = none → H' p = some (.tup [.int (tmF f : Nat), .int ((kpF f : Nat) - 1)]) → Same H H' → Q (.ref p) H'
/-- the board with the fault's place mended by the name z -/
def mendD (ds : List PyData) (f : Flt) (z : Str) (l : PyData) (ks : List PyData) : List PyData :=
  ds.take (tmF f) ++ [if kpF f = 0 then .tuple [.int 0, .list ks] else .tuple [l, .list (ks.take (kpF f - 1) ++ [frD z] ++ ks.drop (kpF f))]] ++ ds.drop (tmF f + 1)
def spMended (K : PySem.W.Frag) : Sp := fun vs H Q _ => ∃ (sa q D : Addr) (u : HO) (z : Str) (f : Flt) (ds : List PyData) (l : PyData) (ks : List PyData), vs = [.ref sa, .ref q, .str z] ∧ H q = some (.tup (fltV f)) ∧ H D = some u ∧ Dp K (Of1 D H) (.ref sa) (.list ds) ∧ ds.length ≤ 3 ∧
  ds[tmF f]? = some (.tuple [l, .list ks]) ∧ ks.length ≤ 8 ∧ kpF f ≤ ks.length ∧ ∀ a H', Dp K (Of1 D H') (.ref a) (.list (mendD ds f z l ks)) → Ex D H H' → H' D = some u → Q (.ref a) H'
def spKo (K : PySem.W.Frag) : Sp := fun vs H Q _ => ∃ (a : Addr) (ds : List PyData), vs = [.ref a] ∧ Dp K H (.ref a) (.list ds) ∧ ds.length ≤ 3 ∧ (∀ d ∈ ds, ∃ l ks, d = .tuple [l, .list ks] ∧ ks.length ≤ 8) ∧
  ∀ p us H', H p = none → H' p = some (.lst us) → DpAll K H us (ds.flatMap kidsD) → Same H H' → Q (.ref p) H'
def spNames (K : PySem.W.Frag) : Sp := fun vs H Q _ => ∃ (a : Addr) (ds : List PyData) (m n : Nat), vs = [.ref a] ∧ Dp K H (.ref a) (.list ds) ∧ SlS m n ds ∧
  ∀ (p : Addr) (ys : List Str) H', H' p = some (.lst (ys.map V.str)) → ys.length = (ds.flatMap kidsD).length → Same H H' → Q (.ref p) H'
theorem flat_more {ds : List PyData} {i : Nat} {d : PyData} (h : ds[i]? = some d) : (ds.take (i + 1)).flatMap kidsD = (ds.take i).flatMap kidsD ++ kidsD d := by
  rw [take_at h, List.flatMap_append, List.flatMap_cons, List.flatMap_nil, List.append_nil]
theorem dps_snoc {K : PySem.W.Frag} {H : Hp} {us : List V} {ds : List PyData} {v : V} {d : PyData} (h : DpAll K H us ds) (q : Dp K H v d) : DpAll K H (us ++ [v]) (ds ++ [d]) := dps_app h (dps_one q)
section
variable {P : Program} {w : World} {K : PySem.W.Frag} {mg : Str → Option Value} {base : Heap} {A : Ad}
theorem ok_keepers_of (T : Txt K mg A) : FnOk P w K mg base CX0 1 A.f_keepers_of A.d_keepers_of P_keepers_of (spKo K) := by
  refine T.F_keepers_of.ok sc_keepers_of (fun vs H Q E h => ?_) (fun cdv A' outer s H vs Q E hr h => ?_)
  · obtain ⟨a, ds, rfl, _⟩ := h
    rfl
  · obtain ⟨a, ds, rfl, hd, t3, sh, k⟩ := h
    refine ⟨_, (pss_one (ps_ret (pe_lc2 (own := [("team", 1), ("keeper", 2)]) (tt := tYes) (tt1 := tYes) (vs1 := [2]) (g := (gName 1)) (g1 := (gName 2)) rfl sc_keepers_of.nd (pi_listK (K := K) rfl (pv 0)) (blkOk_by (own := [("team", 1), ("keeper", 2)]) (N := N_keepers_of) (sc := defScope s_keepers_of) (by decide +kernel)) (by decide) (fun _ _ _ _ _ => (pg_name (i := 1) sc_keepers_of.nd rfl (Or.inl rfl))) (fun _ _ _ _ _ => pts_nil) (fun _ _ _ _ _ => (pi_listK (K := K) rfl (pe_ix (ix_tupK (K := K) rfl) (pv 1) pe_int (fun _ _ => rfl)))) (fun _ _ _ _ _ => (pg_name (i := 2) sc_keepers_of.nd rfl (Or.inl rfl))) (fun _ _ _ _ _ => pts_nil) (fun _ _ _ _ _ => (pv 2))))), ?_⟩
    cases hd with
    | @lst _ xs _ qa pa =>
      have lx := dps_len pa
      have flen : ∀ i, ((ds.take i).flatMap kidsD).length ≤ 8 * i := fun i => by
        induction i with
        | zero => exact Nat.le_refl _
        | succ i ih =>
          by_cases lt : i < ds.length
          · have e : ds[i]? = some ds[i] := List.getElem?_eq_getElem lt
            obtain ⟨l, ks, eq, k8⟩ := sh _ (List.getElem_mem lt)
            rw [flat_more e, List.length_append, eq]
            show _ + ks.length ≤ _
            omega
          · rw [List.take_of_length_le (by omega)] at ih ⊢
            omega
      refine ⟨_, rfl, a, rfl, ⟨_, qa⟩, fun D nD => ?_⟩
      refine ⟨fun i m H' => m = xs.length - i ∧ i ≤ xs.length ∧ Same H H' ∧ ∃ us : List V, H' D = some (.lst us) ∧ DpAll K H us ((ds.take i).flatMap kidsD),
        ⟨_, rfl, Nat.zero_le _, same_new nD, [], upd_same, .nil⟩, ?_⟩
      rintro i m H1 ⟨rfl, hi, s1, us, hD, pu⟩
      have q1 : SqL K H1 a xs := sqL_std (same_std s1) qa
      by_cases lt : i < xs.length
      · refine .inr ⟨⟨_, xs[i], q1, List.getElem?_eq_getElem lt⟩, fun H' => i + 1 ≤ xs.length ∧ Same H H' ∧ ∃ us : List V, H' D = some (.lst us) ∧ DpAll K H us ((ds.take (i + 1)).flatMap kidsD), fun H' z => ⟨xs.length - (i + 1), by omega, rfl, z⟩, ?_⟩
        rintro x H2 ⟨rfl, y⟩
        have ex : xs[i] = x := Option.some.inj ((List.getElem?_eq_getElem lt).symm.trans (y _ q1))
        subst ex
        obtain ⟨di, edi, hdi⟩ := dps_at pa (List.getElem?_eq_getElem lt)
        obtain ⟨l, ks, rfl, k8⟩ := sh di (List.mem_of_getElem? edi)
        have more := flat_more edi
        have fl := flen i
        generalize xs[i] = x at *
        cases hdi with
        | @tup c zs _ qc pc =>
          obtain ⟨vl, vk, f1, f2, rfl, ee, h1, h2⟩ := two pc (dps_len pc)
          cases ee
          cases h2 with
          | @lst e ys _ qe pe =>
            have ly := dps_len pe
            refine ⟨rfl, ?_⟩
            refine ⟨_, rfl, c, _, _, _, rfl, rfl, sqT_std (same_std s1) qc, rfl, e, rfl, ⟨_, sqL_std (same_std s1) qe⟩, ?_⟩
            refine ⟨fun j m H' => m = ys.length - j ∧ j ≤ ys.length ∧ Same H H' ∧ ∃ us : List V, H' D = some (.lst us) ∧ DpAll K H us ((ds.take i).flatMap kidsD ++ ks.take j),
              ⟨_, rfl, Nat.zero_le _, s1, us, hD, by rw [List.take_zero, List.append_nil]; exact pu⟩, ?_⟩
            rintro j m H3 ⟨rfl, hj, s3, us3, hD3, pu3⟩
            have q3 : SqL K H3 e ys := sqL_std (same_std s3) qe
            by_cases lj : j < ys.length
            · refine .inr ⟨⟨_, ys[j], q3, List.getElem?_eq_getElem lj⟩, fun H' => j + 1 ≤ ys.length ∧ Same H H' ∧ ∃ us : List V, H' D = some (.lst us) ∧ DpAll K H us ((ds.take i).flatMap kidsD ++ ks.take (j + 1)), fun H' z => ⟨ys.length - (j + 1), by omega, rfl, z⟩, ?_⟩
              rintro x H4 ⟨rfl, y⟩
              have ex : ys[j] = x := Option.some.inj ((List.getElem?_eq_getElem lj).symm.trans (y _ q3))
              subst ex
              obtain ⟨dk, edk, hdk⟩ := dps_at pe (List.getElem?_eq_getElem lj)
              have l3 := dps_len pu3
              rw [List.length_append, List.length_take] at l3
              refine ⟨rfl, _, rfl, _, hD3, small1000 (by omega), lj, same_over s3 nD, us3 ++ [ys[j]], upd_same, ?_⟩
              rw [take_at edk, ← List.append_assoc]
              exact dps_snoc pu3 hdk
            · refine .inl ⟨⟨_, q3, by omega⟩, lt, s3, us3, hD3, ?_⟩
              rw [more]
              have e : ks.take j = ks := List.take_of_length_le (by omega)
              rw [e] at pu3
              exact pu3
      · refine .inl ⟨⟨_, q1, by omega⟩, k D us H1 nD hD ?_ s1⟩
        rw [List.take_of_length_le (by omega)] at pu
        exact pu
theorem ok_names (T : Txt K mg A) : FnOk P w K mg base CX0 2 A.f_names A.d_names P_names (spNames K) := by
  refine T.F_names.ok sc_names (fun vs H Q E h => ?_) (fun cdv A' outer s H vs Q E hr h => ?_)
  · obtain ⟨a, ds, m, n, rfl, _⟩ := h
    rfl
  · obtain ⟨a, ds, m, n, rfl, hd, sl, k⟩ := h
    refine ⟨_, (pss_one (ps_ret (pe_callB (sortedLK (K := K) rfl) (by rfl) T.n_sorted (by decide +kernel) (pa_cons (pe_lc (own := [("keeper", 1)]) (tt := tYes) (g := (gName 1)) rfl sc_names.nd (pi_listK (K := K) rfl (pe_call (ok_keepers_of T) (hr.mono (by decide)) rfl T.g_keepers_of T.F_keepers_of.kp T.b_keepers_of .nil pass0 (pa_cons (pv 0) pa_nil))) (blkOk_by (own := [("keeper", 1)]) (N := N_names) (sc := defScope s_names) (by decide +kernel)) (fun _ _ _ _ _ => (pg_name (i := 1) sc_names.nd rfl (Or.inl rfl))) (fun _ _ _ _ _ => pts_nil) (fun _ _ _ _ _ => by exact (pe_ix (ix_tupK (K := K) rfl) (pv 1) pe_int (fun _ _ => rfl)))) pa_nil)))), ?_⟩
    refine ⟨_, rfl, a, ds, rfl, hd, sl.t3, fun d hd => ?_, fun p us H1 np hp pu s1 => ?_⟩
    · obtain ⟨l, ks, e, _, k8, _⟩ := sl.ok d hd
      exact ⟨l, ks, e, k8⟩
    refine ⟨p, rfl, ⟨_, SqL.of hp⟩, fun D nD => ?_⟩
    have lu := dps_len pu
    have k8 := sl.k8
    refine lc_list (K := K) (a := p) (xs := us) (fun i G => Same H1 G ∧ ∃ ws : List Str, G D = some (.lst (ws.map V.str)) ∧ ws.length = i) ⟨same_new nD, [], upd_same, rfl⟩ (fun i G _ z => SqL.of (z.1 _ _ hp)) ?_ ?_
    · rintro i x G hi ⟨sG, ws, hD, wl⟩
      obtain ⟨di, edi, hdi⟩ := dps_at pu hi
      have il := (List.getElem?_eq_some_iff.mp edi).1
      obtain ⟨dd, hdd, hm⟩ := List.mem_flatMap.mp (List.mem_of_getElem? edi)
      obtain ⟨l', ks, rfl, _, _, kk⟩ := sl.ok dd hdd
      obtain ⟨z, r, w', vs, rfl, _⟩ := kk di hm
      cases hdi with
      | @tup e zs _ qe pe =>
        obtain ⟨u1, u2, u3, u4, f1, f2, f3, f4, rfl, ee, hu, _, _, _⟩ := four pe (dps_len pe)
        cases ee
        cases hu
        refine ⟨rfl, ?_⟩
        refine ⟨_, rfl, e, _, _, _, rfl, rfl, sqT_std (same_std (s1.trans sG)) qe, rfl, ?_⟩
        refine ⟨_, hD, by rw [List.length_map]; exact small1000 (by omega), same_over sG nD, ws ++ [z], ?_, by rw [List.length_append, wl]; rfl⟩
        rw [upd_same, List.map_append]
        rfl
    · rintro G ⟨sG, ws, hD, wl⟩
      refine ⟨D, _, rfl, SqL.of hD, fun ys q pm srt nq => ?_⟩
      exact k q ys _ upd_same (by rw [pm.length_eq, wl, lu]) (s1.trans (sG.trans (same_new nq)))
theorem ok_place (T : Txt K mg A) : FnOk P w K mg base CX0 1 A.f_place A.d_place P_place spPlace := by
  refine T.F_place.ok sc_place (fun vs H Q E h => ?_) (fun cdv A' outer s H vs Q E hr h => ?_)
  · obtain ⟨q, f, rfl, _⟩ := h
    rfl
  · obtain ⟨q, f, rfl, hq, k⟩ := h
    refine ⟨_, (pss_one (ps_ret (pe_tup (pa_cons (pe_ix (ix_tupK (K := K) rfl) (pv 0) pe_int (fun _ _ => rfl)) (pa_cons (pe_ifExp (pt_cmpR op_eq (pe_ix (ix_tupK (K := K) rfl) (pv 0) pe_int (fun _ _ => rfl)) pe_str (nomark _)) (pe_un un_neg pe_int) (pe_ix (ix_tupK (K := K) rfl) (pv 0) pe_int (fun _ _ => rfl))) pa_nil))))), ?_⟩
    cases f with
    | team t =>
      refine ⟨_, rfl, q, _, _, _, rfl, rfl, SqT.of hq, rfl, _, rfl, q, _, _, _, rfl, rfl, SqT.of hq, rfl, rfl, _, rfl, ?_⟩
      refine iteT ?_
      refine ⟨1, rfl, (show 2 ≤ sizeLine by decide), fun p np => ?_⟩
      exact k p _ np upd_same (same_new np)
    | keep t j =>
      refine ⟨_, rfl, q, _, _, _, rfl, rfl, SqT.of hq, rfl, _, rfl, q, _, _, _, rfl, rfl, SqT.of hq, rfl, rfl, _, rfl, ?_⟩
      refine iteF ?_
      refine ⟨_, rfl, q, _, _, _, rfl, rfl, SqT.of hq, rfl, (show 2 ≤ sizeLine by decide), fun p np => ?_⟩
      have e : ((kpF (.keep t j) : Nat) : Int) - 1 = (j : Nat) := by show ((j + 1 : Nat) : Int) - 1 = _; omega
      exact k p _ np (by rw [e]; exact upd_same) (same_new np)
    | twice t j =>
      refine ⟨_, rfl, q, _, _, _, rfl, rfl, SqT.of hq, rfl, _, rfl, q, _, _, _, rfl, rfl, SqT.of hq, rfl, rfl, _, rfl, ?_⟩
      refine iteF ?_
      refine ⟨_, rfl, q, _, _, _, rfl, rfl, SqT.of hq, rfl, (show 2 ≤ sizeLine by decide), fun p np => ?_⟩
      have e : ((kpF (.twice t j) : Nat) : Int) - 1 = (j : Nat) := by show ((j + 1 : Nat) : Int) - 1 = _; omega
      exact k p _ np (by rw [e]; exact upd_same) (same_new np)
theorem flt_at (f : Flt) : ∃ (s : Str) (r : List V), fltV f = .str s :: .int (tmF f : Nat) :: r ∧ (decide (V.str s = V.str "team") = decide (kpF f = 0)) ∧ (s = "team" ∨ s = "keeper" ∨ s = "twice") ∧ (kpF f ≠ 0 → ∃ r', r = .int ((kpF f - 1 : Nat) : Nat) :: r') := by
  cases f with
  | team t =>
    refine ⟨"team", [], rfl, ?_, .inl rfl, fun z => absurd rfl z⟩
    rw [decide_eq_true (show V.str ("team" : Str) = V.str "team" from rfl)]
    exact (decide_eq_true rfl).symm
  | keep t j =>
    refine ⟨"keeper", [.int (j : Nat)], rfl, ?_, .inr (.inl rfl), fun _ => ⟨[], rfl⟩⟩
    show decide (V.str ("keeper" : Str) = V.str "team") = decide (j + 1 = 0)
    rw [decide_eq_false (show ¬ (j + 1 = 0) by omega)]
    decide
  | twice t j =>
    refine ⟨"twice", [.int (j : Nat)], rfl, ?_, .inr (.inr rfl), fun _ => ⟨[], rfl⟩⟩
    show decide (V.str ("twice" : Str) = V.str "team") = decide (j + 1 = 0)
    rw [decide_eq_false (show ¬ (j + 1 = 0) by omega)]
    decide
theorem ok_mended (T : Txt K mg A) : FnOk P w K mg base CX0 1 A.f_mended A.d_mended P_mended (spMended K) := by
  refine T.F_mended.ok sc_mended (fun vs H Q E h => ?_) (fun cdv A' outer s H vs Q E hr h => ?_)
  · obtain ⟨sa, q, D, u, z, f, ds, l, ks, rfl, _⟩ := h
    rfl
  · obtain ⟨sa, q, D, u, z, f, ds, l, ks, rfl, hq, hp, hd, t3, ed, k8, kl, k⟩ := h
    refine ⟨_, (pss_cons (ps_set (i := 3) sc_mended.nd rfl (Or.inl rfl) (pe_ix (ix_tupK (K := K) rfl) (pv 1) pe_int (fun _ _ => rfl)))
    (pss_cons (ps_asg (pe_ix (ix_listK (K := K) rfl) (pv 0) (pv 3) (fun _ _ => rfl)) (pg_tup rfl (pgs_cons (pg_name (i := 4) sc_mended.nd rfl (Or.inl rfl)) (pgs_cons (pg_name (i := 5) sc_mended.nd rfl (Or.inl rfl)) pgs_nil))))
    (pss_cons (ps_if (pt_cmpR op_eq (pe_ix (ix_tupK (K := K) rfl) (pv 1) pe_int (fun _ _ => rfl)) pe_str (nomark _))
      (pss_one (ps_ret (pe_op (op_catL (K := K) rfl) (pe_op (op_catL (K := K) rfl) (pe_slice (sl_listK (K := K) rfl) (pv 0) po_none (po_some (pv 3))) (pe_lst (pa_cons (pe_tup (pa_cons pe_int (pa_cons (pv 5) pa_nil))) pa_nil))) (pe_slice (sl_listK (K := K) rfl) (pv 0) (po_some (pe_op op_add (pv 3) pe_int)) po_none))))
      pss_nil)
    (pss_cons (ps_set (i := 6) sc_mended.nd rfl (Or.inl rfl) (pe_ix (ix_tupK (K := K) rfl) (pv 1) pe_int (fun _ _ => rfl)))
    (pss_one (ps_ret (pe_op (op_catL (K := K) rfl) (pe_op (op_catL (K := K) rfl) (pe_slice (sl_listK (K := K) rfl) (pv 0) po_none (po_some (pv 3))) (pe_lst (pa_cons (pe_tup (pa_cons (pv 4) (pa_cons (pe_op (op_catL (K := K) rfl) (pe_op (op_catL (K := K) rfl) (pe_slice (sl_listK (K := K) rfl) (pv 5) po_none (po_some (pv 6))) (pe_lst (pa_cons (pe_tup (pa_cons (pv 2) (pa_cons pe_int (pa_cons pe_bl (pa_cons (pe_lst pa_nil) pa_nil))))) pa_nil))) (pe_slice (sl_listK (K := K) rfl) (pv 5) (po_some (pe_op op_add (pv 6) pe_int)) po_none)) pa_nil))) pa_nil))) (pe_slice (sl_listK (K := K) rfl) (pv 0) (po_some (pe_op op_add (pv 3) pe_int)) po_none)))))))), ?_⟩
    obtain ⟨sf, rf, ef, dec, _, third⟩ := flt_at f
    rw [ef] at hq
    have sz : ∀ n : Nat, n ≤ 1000 → n ≤ sizeLine := fun n h => Nat.le_of_lt (small1000 h)
    cases hd with
    | @lst _ xs _ qa hxs =>
      have lx := dps_len hxs
      obtain ⟨tn, etn'⟩ : ∃ tn, tn = tmF f := ⟨_, rfl⟩
      rw [← etn'] at ed hq
      have tl : tn < ds.length := (List.getElem?_eq_some_iff.mp ed).1
      have etn : ((tn : Nat) : Int) + 1 = ((tn + 1 : Nat) : Int) := rfl
      obtain ⟨vt, evt, hvt⟩ := dps_get hxs ed
      cases hvt with
      | @tup ta zs _ qt pt =>
        obtain ⟨vl, vk, f1, f2, rfl, ee, hvl, hvk⟩ := two pt (dps_len pt)
        cases ee
        cases hvk with
        | @lst c ys _ qc pc =>
          have ly := dps_len pc
          have low := of1_less D
          have BDs : ∀ {G : Hp}, Ex D H G → SqL K G sa xs := fun x => sqL_std (same_std (low _)) (sqL_std (same_std x) qa)
          have CSs : ∀ {G : Hp}, Ex D H G → SqL K G c ys := fun x => sqL_std (same_std (low _)) (sqL_std (same_std x) qc)
          have CSo : ∀ {G : Hp}, Ex D H G → SqL K (Of1 D G) c ys := fun x => sqL_std (same_std x) qc
          refine ⟨_, rfl, q, _, _, _, rfl, rfl, SqT.of hq, atI_nat (j := 1) rfl, ?_⟩
          refine ⟨_, rfl, _, rfl, sa, _, _, _, rfl, rfl, BDs (Same.refl _), atI_nat evt, ta, _, rfl, sqT_std (same_std (low _)) qt, rfl, _, _, rfl, _, _, rfl, rfl, ?_⟩
          refine ⟨_, rfl, q, _, _, _, rfl, rfl, SqT.of hq, atI_nat (j := 0) rfl, rfl, _, rfl, ?_⟩
          rw [dec]
          by_cases h0 : kpF f = 0
          · rw [decide_eq_true h0]
            refine iteT ?_
            refine ⟨_, rfl, _, rfl, _, rfl, sa, _, rfl, BDs ((Same.refl _ : Ex D H H)), fun b1 o1 => ?_⟩
            rw [cut_take]
            obtain ⟨Q1, g1, v1, k1, hp⟩ := al1 hp o1 (.lst (xs.take tn))
            rw [g1]
            have c1 := ((Same.refl _ : Ex D H H)).trans v1
            have mid : Ex D Q1 Q1 := Same.refl _
            refine ⟨_, rfl, (show 2 ≤ sizeLine by decide), fun b7 o7 => ?_⟩
            obtain ⟨Q7, g7, v7, k7, hp⟩ := al1 hp o7 (.tup [.int 0, .ref c])
            rw [g7]
            refine ⟨(show 1 ≤ sizeLine by decide), fun b8 o8 => ?_⟩
            obtain ⟨Q8, g8, v8, k8', hp⟩ := al1 hp o8 (.lst [V.ref b7])
            rw [g8]
            refine ⟨b1, b8, _, _, rfl, rfl, SqL.of (of1_less _ _ _ _ ((mid.trans (v7.trans v8)) _ _ k1)), SqL.of (of1_less _ _ _ _ k8'), sz _ (by rw [List.length_take]; show _ + 1 ≤ _; omega), fun b9 o9 => ?_⟩
            obtain ⟨Q9, g9, v9, k9, hp⟩ := al1 hp o9 (.lst (xs.take tn ++ [V.ref b7]))
            rw [g9]
            have c9 := c1.trans (mid.trans (v7.trans (v8.trans v9)))
            refine ⟨_, rfl, _, rfl, _, _, rfl, rfl, _, rfl, sa, _, rfl, BDs c9, fun ba oa => ?_⟩
            rw [etn, cut_drop]
            obtain ⟨Qa, ga, va, ka, hp⟩ := al1 hp oa (.lst (xs.drop (tn + 1)))
            rw [ga]
            refine ⟨b9, ba, _, _, rfl, rfl, SqL.of (of1_less _ _ _ _ (va _ _ k9)), SqL.of (of1_less _ _ _ _ ka), sz _ (by rw [List.length_append, List.length_take, List.length_drop]; show _ + 1 + _ ≤ _; omega), fun bb ob => ?_⟩
            obtain ⟨Qb, gb, vb, kb, hp⟩ := al1 hp ob (.lst (xs.take tn ++ [V.ref b7] ++ xs.drop (tn + 1)))
            rw [gb]
            have cb := c9.trans (va.trans vb)
            have w8b := v8.trans (v9.trans (va.trans vb))
            have bdD := dps_same cb hxs
            refine k bb Qb ?_ cb hp
            unfold mendD
            rw [if_pos h0, ← etn']
            exact .lst (SqL.of kb) (dps_app (dps_app (dps_take bdD tn) (dps_one (.tup (SqT.of (w8b _ _ k7)) (.cons (.int 0) (.cons (.lst (CSo cb) (dps_same cb pc)) .nil))))) (dps_drop bdD (tn + 1)))
          · rw [decide_eq_false h0]
            refine iteF ?_
            obtain ⟨r', er⟩ := third h0
            rw [er] at hq
            obtain ⟨kn, ekn'⟩ : ∃ kn, kn = kpF f - 1 := ⟨_, rfl⟩
            rw [← ekn'] at hq
            have ekn : ((kn : Nat) : Int) + 1 = ((kn + 1 : Nat) : Int) := rfl
            have kpe : kpF f = kn + 1 := by omega
            refine ⟨_, rfl, q, _, _, _, rfl, rfl, SqT.of hq, atI_nat (j := 2) rfl, ?_⟩
            refine ⟨_, rfl, _, rfl, _, rfl, sa, _, rfl, BDs ((Same.refl _ : Ex D H H)), fun b1 o1 => ?_⟩
            rw [cut_take]
            obtain ⟨Q1, g1, v1, k1, hp⟩ := al1 hp o1 (.lst (xs.take tn))
            rw [g1]
            have c1 := ((Same.refl _ : Ex D H H)).trans v1
            refine ⟨_, rfl, _, rfl, _, rfl, _, rfl, c, _, rfl, CSs c1, fun b2 o2 => ?_⟩
            rw [cut_take]
            obtain ⟨Q2, g2, v2, k2, hp⟩ := al1 hp o2 (.lst (ys.take kn))
            rw [g2]
            refine ⟨_, rfl, (show 0 ≤ sizeLine by decide), fun c1' d1 => ?_⟩
            obtain ⟨R1, r1, u1, m1, hp⟩ := al1 hp d1 (.lst [])
            rw [r1]
            refine ⟨(show 4 ≤ sizeLine by decide), fun c2' d2 => ?_⟩
            obtain ⟨R2, r2, u2, m2, hp⟩ := al1 hp d2 (.tup [V.str z, .int 1, .bl true, .ref c1'])
            rw [r2]
            refine ⟨(show 1 ≤ sizeLine by decide), fun b3 o3 => ?_⟩
            obtain ⟨Q3, g3, v3, k3, hp⟩ := al1 hp o3 (.lst [V.ref c2'])
            rw [g3]
            refine ⟨b2, b3, _, _, rfl, rfl, SqL.of (of1_less _ _ _ _ ((u1.trans (u2.trans v3)) _ _ k2)), SqL.of (of1_less _ _ _ _ k3), sz _ (by rw [List.length_take]; show _ + 1 ≤ _; omega), fun b4 o4 => ?_⟩
            obtain ⟨Q4, g4, v4, k4, hp⟩ := al1 hp o4 (.lst (ys.take kn ++ [V.ref c2']))
            rw [g4]
            have c4 := c1.trans (v2.trans (u1.trans (u2.trans (v3.trans v4))))
            refine ⟨_, rfl, _, rfl, _, _, rfl, rfl, _, rfl, c, _, rfl, CSs c4, fun b5 o5 => ?_⟩
            rw [ekn, cut_drop]
            obtain ⟨Q5, g5, v5, k5, hp⟩ := al1 hp o5 (.lst (ys.drop (kn + 1)))
            rw [g5]
            refine ⟨b4, b5, _, _, rfl, rfl, SqL.of (of1_less _ _ _ _ (v5 _ _ k4)), SqL.of (of1_less _ _ _ _ k5), sz _ (by rw [List.length_append, List.length_take, List.length_drop]; show _ + 1 + _ ≤ _; omega), fun b6 o6 => ?_⟩
            obtain ⟨Q6, g6, v6, k6, hp⟩ := al1 hp o6 (.lst (ys.take kn ++ [V.ref c2'] ++ ys.drop (kn + 1)))
            rw [g6]
            have mid := v2.trans (u1.trans (u2.trans (v3.trans (v4.trans (v5.trans v6)))))
            refine ⟨(show 2 ≤ sizeLine by decide), fun b7 o7 => ?_⟩
            obtain ⟨Q7, g7, v7, k7, hp⟩ := al1 hp o7 (.tup [vl, .ref b6])
            rw [g7]
            refine ⟨(show 1 ≤ sizeLine by decide), fun b8 o8 => ?_⟩
            obtain ⟨Q8, g8, v8, k8', hp⟩ := al1 hp o8 (.lst [V.ref b7])
            rw [g8]
            refine ⟨b1, b8, _, _, rfl, rfl, SqL.of (of1_less _ _ _ _ ((mid.trans (v7.trans v8)) _ _ k1)), SqL.of (of1_less _ _ _ _ k8'), sz _ (by rw [List.length_take]; show _ + 1 ≤ _; omega), fun b9 o9 => ?_⟩
            obtain ⟨Q9, g9, v9, k9, hp⟩ := al1 hp o9 (.lst (xs.take tn ++ [V.ref b7]))
            rw [g9]
            have c9 := c1.trans (mid.trans (v7.trans (v8.trans v9)))
            refine ⟨_, rfl, _, rfl, _, _, rfl, rfl, _, rfl, sa, _, rfl, BDs c9, fun ba oa => ?_⟩
            rw [etn, cut_drop]
            obtain ⟨Qa, ga, va, ka, hp⟩ := al1 hp oa (.lst (xs.drop (tn + 1)))
            rw [ga]
            refine ⟨b9, ba, _, _, rfl, rfl, SqL.of (of1_less _ _ _ _ (va _ _ k9)), SqL.of (of1_less _ _ _ _ ka), sz _ (by rw [List.length_append, List.length_take, List.length_drop]; show _ + 1 + _ ≤ _; omega), fun bb ob => ?_⟩
            obtain ⟨Qb, gb, vb, kb, hp⟩ := al1 hp ob (.lst (xs.take tn ++ [V.ref b7] ++ xs.drop (tn + 1)))
            rw [gb]
            have cb := c9.trans (va.trans vb)
            have w8b := v8.trans (v9.trans (va.trans vb))
            have bdD := dps_same cb hxs
            refine k bb Qb ?_ cb hp
            unfold mendD
            rw [if_neg h0, ← etn', ← ekn', kpe]
            have ksD := dps_same cb pc
            have wlast := v7.trans w8b
            have hfr : Dp K (Of1 D Qb) (.ref c2') (frD z) := .tup (SqT.of ((v3.trans (v4.trans (v5.trans (v6.trans wlast)))) _ _ m2)) (.cons (.str _) (.cons (.int 1) (.cons (.bl true) (.cons (.lst (SqL.of ((u2.trans (v3.trans (v4.trans (v5.trans (v6.trans wlast))))) _ _ m1)) .nil) .nil))))
            exact .lst (SqL.of kb) (dps_app (dps_app (dps_take bdD tn) (dps_one (.tup (SqT.of (w8b _ _ k7)) (.cons (dp_same cb hvl) (.cons (.lst (SqL.of (wlast _ _ k6)) (dps_app (dps_app (dps_take ksD kn) (dps_one hfr)) (dps_drop ksD (kn + 1)))) .nil))))) (dps_drop bdD (tn + 1)))
end
end My
namespace My
open PySem PySem.Spec PyProof.Rows L2
open GxR (TabB TabG Tabbed)
theorem Std.trans {H H1 H2 : Hp} (a : Std H H1) (b : Std H1 H2) : Std H H2 := fun c o h n => b c o (a c o h n) n
theorem off_std {b l : Addr} {H H' : Hp} (s : Std H H') : Std (Off b l H) (Off b l H') := fun c o h n => by
  obtain ⟨h1, h2, h3⟩ := off_some h
  rw [off_eq h1 h2]
  exact s c o h3 n
theorem Bag.std {b l : Addr} {H H' : Hp} (B : Bag H b l) (s : Std H H') : Bag H' b l := by
  obtain ⟨⟨i, m, n, h1, r⟩, ⟨xs, h2, q⟩, ne⟩ := B
  exact ⟨⟨i, m, n, s _ _ h1 (fun ps z => by cases z), r⟩, ⟨xs, s _ _ h2 (fun ps z => by cases z), q⟩, ne⟩
theorem tbs_same {ps : List Addr} {H H' : Hp} (t : Tbs ps H) (s : Same H H') : Tbs ps H' := fun p hp => by
  obtain ⟨xs, h, r⟩ := t p hp
  exact ⟨xs, s _ _ h, r⟩
theorem tbs_ext {ps : List Addr} {b l : Addr} {H H' : Hp} (t : Tbs ps H) (B : Bag H b l) (x : Ext b l H H') : Tbs ps H' := fun p hp => by
  obtain ⟨xs, h, r⟩ := t p hp
  refine ⟨xs, x.get h (fun z => ?_) (fun z => ?_), r⟩
  · obtain ⟨i, m, n, h1, _⟩ := B.ob
    rw [← z, h] at h1
    cases h1
  · obtain ⟨ys, h1, _⟩ := B.ds
    rw [← z, h] at h1
    cases h1
theorem nw_off {b l : Addr} {H H' : Hp} (B : Bag H b l) : Same (Nw H H') (Off b l H') := fun c o h => by
  obtain ⟨h1, h2⟩ := nw_some h
  rw [off_eq (B.nb h1) (B.nl h1)]
  exact h2
def fltD : Flt → List PyData
  | .team t => [.str "team", .int (t : Nat)]
  | .keep t k => [.str "keeper", .int (t : Nat), .int (k : Nat)]
  | .twice t k => [.str "twice", .int (t : Nat), .int (k : Nat)]
theorem dp_flt {K : PySem.W.Frag} {H : Hp} {q : Addr} {f : Flt} (h : H q = some (.tup (fltV f))) : Dp K H (.ref q) (.tuple (fltD f)) := by
  refine .tup (SqT.of h) ?_
  cases f with
  | team t => exact .cons (.str _) (.cons (.int _) .nil)
  | keep t k => exact .cons (.str _) (.cons (.int _) (.cons (.int _) .nil))
  | twice t k => exact .cons (.str _) (.cons (.int _) (.cons (.int _) .nil))
theorem shaped_flt (f : Flt) : SeqAt.shaped (.tuple (fltD f)) = true := by
  have key : ∀ ds : List PyData, (∀ d ∈ ds, (d.canLay0 = true) ∧ d.depth ≤ 0) → SeqAt.shaped (.tuple ds) = true := fun ds h => by
    unfold SeqAt.shaped
    have h1 : (PyData.tuple ds).canLay0 = true := by
      rw [PyData.canLay0]
      exact layAll_of fun d hd => (h d hd).1
    have h2 : (PyData.tuple ds).depth ≤ 64 := by
      rw [PyData.depth]
      exact Nat.le_trans (Nat.succ_le_succ (all_depth (m := 0) fun d hd => (h d hd).2)) (by decide)
    rw [h1, decide_eq_true h2]
    rfl
  have int : ∀ i : Int, (PyData.int i).canLay0 = true ∧ (PyData.int i).depth ≤ 0 := fun i => ⟨by rw [PyData.canLay0], by rw [PyData.depth]; exact Nat.le_refl _⟩
  have str : ∀ z : Str, z.length ≤ 9 → Lo z → (PyData.str z).canLay0 = true ∧ (PyData.str z).depth ≤ 0 := fun z a b => ⟨(nic_str a b).ly, (nic_str a b).sh.p⟩
  cases f with
  | team t =>
    refine key _ fun d hd => ?_
    simp only [fltD, List.mem_cons, List.not_mem_nil, or_false] at hd
    rcases hd with e | e <;> rw [e]
    · exact str _ (by decide +kernel) (lo_of (by decide +kernel))
    · exact int _
  | keep t k =>
    refine key _ fun d hd => ?_
    simp only [fltD, List.mem_cons, List.not_mem_nil, or_false] at hd
    rcases hd with e | e | e <;> rw [e]
    · exact str _ (by decide +kernel) (lo_of (by decide +kernel))
    · exact int _
    · exact int _
  | twice t k =>
    refine key _ fun d hd => ?_
    simp only [fltD, List.mem_cons, List.not_mem_nil, or_false] at hd
    rcases hd with e | e | e <;> rw [e]
    · exact str _ (by decide +kernel) (lo_of (by decide +kernel))
    · exact int _
    · exact int _
theorem of1_std {p : Addr} {H H' : Hp} (s : Std H H') : Std (Of1 p H) (Of1 p H') := fun c o h n => by
  obtain ⟨h1, h2⟩ := of1_some h
  rw [of1_eq h1]
  exact s c o h2 n
theorem std_over {p : Addr} {H G : Hp} {o : HO} (s : Std H G) (n : H p = none) : Std H (upd G p o) := fun c u h nt => by
  rw [upd_ne (ne_of_none h n)]
  exact s c u h nt
theorem unitsC {k : Nat} {A : Around} (h : Room k A) : A.units < cLine := by
  have := h.un
  omega
theorem letter_at : ∀ k, k < 26 → abc.cps.toList[k]? = some (97 + k) := by decide +kernel
/-- the place isn't so early -/
theorem lex_not {t k aT aK : Int} (h : aT < t ∨ (aT = t ∧ aK < k)) :
    Ob.lexAt (fun j => decide (([t, k] : List Int).getD j 0 = ([aT, aK] : List Int).getD j 0)) (fun j => decide (([t, k] : List Int).getD j 0 ≤ ([aT, aK] : List Int).getD j 0)) (decide (([t, k] : List Int).length ≤ ([aT, aK] : List Int).length)) 0 (min ([t, k] : List Int).length ([aT, aK] : List Int).length) = false := by
  show (if decide (t = aT) = true then (if decide (k = aK) = true then _ else decide (k ≤ aK)) else decide (t ≤ aT)) = false
  rcases h with h | ⟨rfl, h⟩
  · rw [if_neg (by simp; omega), decide_eq_false (by omega)]
  · rw [if_pos (by simp), if_neg (by simp; omega), decide_eq_false (by omega)]
def spRight (K : PySem.W.Frag) (C : Cd) : Sp := fun vs H Q _ => ∃ (sa : Addr) (ds : List PyData), vs = [.ref sa] ∧ Dp K H (.ref sa) (.list ds) ∧ SlS 18 0 ds ∧ Tbs C.tabs H ∧ ∀ H', Std H H' → Tbs C.tabs H' → Q (.bl true) H'
/-- between two mendings: P places are behind, n spare names are used -/
def WR (K : PySem.W.Frag) (C : Cd) (H : Hp) (D : Addr) (m : Nat) (σ : L2.St) (G : Hp) : Prop := Std H G ∧ Tbs C.tabs G ∧ ∃ (sa pa : Addr) (ds : List PyData) (n P : Nat) (aT aK : Int) (v3 v4 v5 v6 v7 v8 : Option V), m = 30 - P ∧ P ≤ 11 ∧ n ≤ P ∧ Dp K (Of1 D G) (.ref sa) (.list ds) ∧ SlS 18 n ds ∧
        G pa = some (.tup [.int aT, .int aK]) ∧ G D = some (.lst ((((List.range 20).drop n).map spn).map V.str)) ∧
        (∀ f, faultD ds = some f → P ≤ posF (lens ds) f ∧ (aT < (tmF f : Nat) ∨ (aT = (tmF f : Nat) ∧ aK < (kpF f : Nat) - 1))) ∧ σ = [some (.ref sa), some (.ref pa), some (.ref D), v3, v4, v5, v6, v7, v8]
theorem sums_more {ds : List PyData} {i : Nat} {d : PyData} (h : ds[i]? = some d) : ((ds.take (i + 1)).flatMap kidsD).length = ((ds.take i).flatMap kidsD).length + (kidsD d).length := by
  rw [flat_more h, List.length_append]
section
variable {P : Program} {w : World} {K : PySem.W.Frag} {mg : Str → Option Value} {base : Heap} {A : Ad} {C : Cd}
theorem ok_right (T : Txt K mg A) (TB : TBs base mg C A) : FnOk P w K mg base CX0 6 A.f_right A.d_right P_right (spRight K C) := by
  refine T.F_right.ok sc_right (fun vs H Q E h => ?_) (fun cdv A' outer s H vs Q E hr h => ?_)
  · obtain ⟨sa, ds, rfl, _⟩ := h
    rfl
  · obtain ⟨sa0, ds0, rfl, hd0, sl0, tb, k⟩ := h
    refine ⟨_, (pss_cons (ps_set (i := 1) sc_right.nd rfl (Or.inl rfl) (pe_tup (pa_cons (pe_un un_neg pe_int) (pa_cons (pe_un un_neg pe_int) pa_nil))))
    (pss_cons (ps_setLc (i := 2) (own := [("k", 6)]) (tt := tYes) (g := (gName 6)) rfl sc_right.nd rfl rfl (sw_true rfl rfl rfl (by decide +kernel)) (pi_range1 (by rfl) T.n_range (pa_cons pe_int pa_nil)) (blkOk_by (own := [("k", 6)]) (N := N_right) (sc := defScope s_right) (by decide +kernel)) (fun _ _ _ _ _ => (pg_name (i := 6) sc_right.nd rfl (Or.inl rfl))) (fun _ _ _ _ _ => pts_nil) (fun _ _ _ _ _ => by exact (pe_op op_add_str pe_str (pe_ix ix_str pe_str (pv 6) (fun _ _ => rfl)))))
    (pss_cons (ps_while PassesOwn.never (pt_cmpR op_notN (pe_call (ok_fault T TB) (hr.mono (by decide)) rfl T.g_fault T.F_fault.kp T.b_fault .nil pass0 (pa_cons (pv 0) pa_nil)) pe_non (nomark _))
      (pss_cons (ps_set (i := 3) sc_right.nd rfl (Or.inl rfl) (pe_call (ok_fault T TB) (hr.mono (by decide)) rfl T.g_fault T.F_fault.kp T.b_fault .nil pass0 (pa_cons (pv 0) pa_nil)))
      (pss_cons (ps_set (i := 4) sc_right.nd rfl (Or.inl rfl) (pe_call (ok_place T) (hr.mono (by decide)) rfl T.g_place T.F_place.kp T.b_place .nil pass0 (pa_cons (pv 3) pa_nil)))
      (pss_cons (ps_if (PW.pt (pw_or (pt_cmpR (notIn_seqK (K := K) rfl) (pe_ix (ix_tupK (K := K) rfl) (pv 3) pe_int (fun _ _ => rfl)) (pe_lst (pa_cons pe_str (pa_cons pe_str (pa_cons pe_str pa_nil)))) (by rfl)) (pw_or1 (pt_cmpR (op_leT (unitsC hr)) (pv 4) (pv 1) (nomark _)))))
        (pss_one (ps_ret pe_bl))
        pss_nil)
      (pss_cons (ps_if (PW.pt (pw_or (pt_cmpR op_notN (pe_call (ok_fault T TB) (hr.mono (by decide)) rfl T.g_fault T.F_fault.kp T.b_fault .nil pass0 (pa_cons (pe_slice (sl_listK (K := K) rfl) (pv 0) po_none (po_some (pe_ix (ix_tupK (K := K) rfl) (pv 3) pe_int (fun _ _ => rfl)))) pa_nil)) pe_non (nomark _)) (pw_or1 (PW.pt (pw_and (pt_cmpR op_lt (pe_callB (len_seqK (K := K) rfl) (by rfl) T.n_len PySem.boot_len (pa_cons (pv 0) pa_nil)) pe_int (nomark _)) (pw_and1 (pt_cmpR (neDK (K := K) rfl hr.units) (pe_call (ok_fault T TB) (hr.mono (by decide)) rfl T.g_fault T.F_fault.kp T.b_fault .nil pass0 (pa_cons (pe_op (op_catL (K := K) rfl) (pv 0) (pe_lst (pa_cons (pe_tup (pa_cons pe_int (pa_cons (pe_lst pa_nil) pa_nil))) pa_nil))) pa_nil)) (pv 3) (nomark _))))))))
        (pss_one (ps_ret pe_bl))
        pss_nil)
      (pss_cons (ps_if (pt_cmpR op_ne (pe_ix (ix_tupK (K := K) rfl) (pv 3) pe_int (fun _ _ => rfl)) pe_str (nomark _))
        (pss_cons (ps_set (i := 5) sc_right.nd rfl (Or.inl rfl) (pe_slice (sl_listK (K := K) rfl) (pe_ix (ix_tupK (K := K) rfl) (pe_ix (ix_listK (K := K) rfl) (pv 0) (pe_ix (ix_tupK (K := K) rfl) (pv 3) pe_int (fun _ _ => rfl)) (fun _ _ => rfl)) pe_int (fun _ _ => rfl)) po_none (po_some (pe_ix (ix_tupK (K := K) rfl) (pv 3) pe_int (fun _ _ => rfl)))))
        (pss_one (ps_if (pt_cmpR op_notN (pe_call (ok_fault T TB) (hr.mono (by decide)) rfl T.g_fault T.F_fault.kp T.b_fault .nil pass0 (pa_cons (pe_op (op_catL (K := K) rfl) (pe_slice (sl_listK (K := K) rfl) (pv 0) po_none (po_some (pe_ix (ix_tupK (K := K) rfl) (pv 3) pe_int (fun _ _ => rfl)))) (pe_lst (pa_cons (pe_tup (pa_cons pe_int (pa_cons (pv 5) pa_nil))) pa_nil))) pa_nil)) pe_non (nomark _))
          (pss_one (ps_ret pe_bl))
          pss_nil)))
        pss_nil)
      (pss_cons (ps_set (i := 0) sc_right.nd rfl (Or.inl rfl) (pe_call (ok_mended T) (hr.mono (by decide)) rfl T.g_mended T.F_mended.kp T.b_mended .nil pass0 (pa_cons (pv 0) (pa_cons (pv 3) (pa_cons (pe_K (K := K) rfl (pe_bm PySem.F.plainAttrs_list PySem.F.slot_list_pop PySem.F.type_list_pop mt_popAt (by exact (pv 2)) (by exact (pa_cons pe_int pa_nil)))) pa_nil)))))
      (pss_one (ps_set (i := 1) sc_right.nd rfl (Or.inl rfl) (pv 4))))))))))
    (pss_one (ps_ret (pe_cmpR op_eq (pe_callB (len_seqK (K := K) rfl) (by rfl) T.n_len PySem.boot_len (pa_cons (pe_call (ok_names T) (hr.mono (by decide)) rfl T.g_names T.F_names.kp T.b_names .nil pass0 (pa_cons (pv 0) pa_nil)) pa_nil)) (pe_callB (cr_sum rfl) (by rfl) T.n_sum (by decide +kernel) (pa_cons (pe_lc (own := [("least", 7), ("keepers", 8)]) (tt := tYes) (g := (gTup K 2 (gCons (gName 7) (gCons (gName 8) gNil)))) rfl sc_right.nd (pi_listK (K := K) rfl (pv 0)) (blkOk_by (own := [("least", 7), ("keepers", 8)]) (N := N_right) (sc := defScope s_right) (by decide +kernel)) (fun _ _ _ _ _ => (pg_tup rfl (pgs_cons (pg_name (i := 7) sc_right.nd rfl (Or.inl rfl)) (pgs_cons (pg_name (i := 8) sc_right.nd rfl (Or.inl rfl)) pgs_nil)))) (fun _ _ _ _ _ => pts_nil) (fun _ _ _ _ _ => by exact (pe_callB (len_seqK (K := K) rfl) (by rfl) T.n_len PySem.boot_len (pa_cons (pv 8) pa_nil)))) pa_nil)) (nomark _))))))), ?_⟩
    have sz : ∀ n : Nat, n ≤ 1000 → n ≤ sizeLine := fun n h => Nat.le_of_lt (small1000 h)
    refine ⟨1, rfl, 1, rfl, (show 2 ≤ sizeLine by decide), fun pa0 npa => ?_⟩
    obtain ⟨H1, g1, s1, ipa⟩ := al0 npa (.tup [V.int (-1), .int (-1)])
    rw [g1]
    -- spare
    refine ⟨20, rfl, by decide, by decide, fun D nD => ?_⟩
    refine lc_range (lo := 0) (n := (20 : Int).toNat) (fun i G => Same H1 G ∧ G D = some (.lst (((List.range i).map spn).map V.str))) ⟨same_new nD, upd_same⟩ ?_ ?_
    · rintro i G hi ⟨sG, hD⟩
      have hi : i < 20 := hi
      have e0 : (0 : Int) + (i : Nat) = (i : Nat) := Int.zero_add _
      rw [e0]
      have lz : abc.length ≤ sizeLine := by decide +kernel
      refine ⟨rfl, ?_⟩
      refine ⟨_, rfl, abc, _, 97 + i, rfl, rfl, lz, atI_nat (letter_at i (by omega)), _, _, rfl, rfl, (by show (("zzqq" : Str).length + 1) ≤ sizeLine; decide +kernel), ?_⟩
      refine ⟨_, hD, by rw [List.length_map, List.length_map, List.length_range]; exact small1000 (by omega), same_over sG nD, ?_⟩
      rw [upd_same, List.range_succ, List.map_append, List.map_append]
      rfl
    · rintro G1 ⟨sG1, hD1⟩
      have nD0 : H D = none := by
        cases q : H D with
        | none => rfl
        | some o =>
          have z := s1 _ _ q
          rw [nD] at z
          cases z
      have sHG := s1.trans sG1
      -- while
      refine ⟨fun m σ G => WR K C H D m σ G,
        ⟨_, same_std sHG, tbs_same tb sHG, sa0, pa0, ds0, 0, 0, -1, -1, _, _, _, _, _, _, rfl, by decide, by decide, dp_same (Same.trans (by
          intro c o h
          rw [of1_eq (ne_of_none h nD0)]
          exact sHG c o h) (Same.refl _)) hd0, sl0, sG1 _ _ ipa, hD1, fun f _ => ⟨Nat.zero_le _, .inl (by omega)⟩, rfl⟩, ?_⟩
      rintro m σ G ⟨stG, tG, sa, pa, ds, n, P, aT, aK, v3, v4, v5, v6, v7, v8, rfl, P11, nP, hd, sl, hpa, hD, later, rfl⟩
      have few := few_of sl (by decide) (by omega)
      have t3 := sl.t3
      have k8 := sl.k8
      have low := of1_less D
      cases hd with
      | @lst _ xs _ qs hxs =>
        have lx := dps_len hxs
        -- the board, later
        have sA : ∀ {F : Hp}, Std G F → SqL K F sa xs := fun s => sqL_std s (sqL_std (same_std (low _)) qs)
        have dA : ∀ {F : Hp}, Std G F → DpAll K F xs ds := fun s => dps_std s _ _ (dps_same (low _) hxs)
        have rfS : Std G G := fun c o h _ => h
        refine ⟨_, rfl, sa, xs, ds, rfl, sA rfS, dA rfS, few, tG, fun u G2 tu g2 => ⟨rfl, _, rfl, ?_⟩⟩
        have st2 := g2.std tG
        have t2 := g2.tb
        cases ef : faultD ds with
        | none =>
          rw [ef] at tu
          cases (show u = .non from tu)
          refine iteF ?_
          -- names
          have hdO : ∀ {F : Hp}, Std G F → Dp K F (.ref sa) (.list ds) := fun s => .lst (sA s) (dA s)
          refine ⟨_, rfl, sa, ds, 18, n, rfl, hdO st2, sl, fun p ys G3 hp yl s3 => ?_⟩
          refine ⟨p, _, rfl, .inl (SqL.of hp), ?_⟩
          have st3 := st2.trans (same_std s3)
          refine ⟨_, rfl, sa, rfl, ⟨_, sA st3⟩, fun D2 nD2 => ?_⟩
          refine lc_list (K := K) (a := sa) (xs := xs) (fun i F => Same G3 F ∧ ∃ ns : List Int, F D2 = some (.lst (ns.map V.int)) ∧ ns.length = i ∧ ns.sum = (((ds.take i).flatMap kidsD).length : Nat)) ⟨same_new nD2, [], upd_same, rfl, rfl⟩ (fun i F _ z => sA (st3.trans (same_std z.1))) ?_ ?_
          · rintro i x F hi ⟨sF, ns, hF, nl, ns'⟩
            obtain ⟨di, edi, hdi⟩ := dps_at hxs hi
            have il := (List.getElem?_eq_some_iff.mp edi).1
            have more := sums_more edi
            obtain ⟨l, ks, rfl, _, _, _⟩ := sl.ok di (List.mem_of_getElem? edi)
            have hdi := dp_std (st3.trans (same_std sF)) _ _ (dp_same (low _) hdi)
            cases hdi with
            | @tup e zs _ qe pe =>
              obtain ⟨vl, vk, f1, f2, rfl, ee, h1, h2⟩ := two pe (dps_len pe)
              cases ee
              cases h2 with
              | @lst c us _ qc pc =>
                have lu := dps_len pc
                refine ⟨e, _, rfl, qe, rfl, _, _, rfl, _, _, rfl, rfl, ?_⟩
                refine ⟨rfl, ?_⟩
                refine ⟨_, rfl, c, _, rfl, .inl qc, ns.map V.int, hF, by rw [List.length_map]; exact small1000 (by omega), same_over sF nD2, ns ++ [(us.length : Int)], ?_, by rw [List.length_append, nl]; rfl, ?_⟩
                · rw [upd_same, List.map_append]
                  rfl
                · rw [List.sum_append, ns', more]
                  show (_ : Int) + (([(us.length : Int)] : List Int).sum) = ((_ + ks.length : Nat) : Int)
                  rw [List.sum_cons, List.sum_nil]
                  omega
          · rintro F ⟨sF, ns, hF, nl, ns'⟩
            rw [lx, List.take_of_length_le (Nat.le_refl _)] at ns'
            refine ⟨D2, ns, rfl, SqL.of hF, rfl, ?_⟩
            have e : decide (V.int ((ys.map V.str).length : Nat) = V.int ns.sum) = true := decide_eq_true (by rw [List.length_map, yl, ns'])
            rw [e]
            exact k F (stG.trans (st3.trans (same_std sF))) (tbs_same t2 (s3.trans sF))
        | some f =>
          rw [ef] at tu
          obtain ⟨q0, rfl, _⟩ := tu
          refine iteT ?_
          refine ⟨fun σ' F => ∃ m', m' < 30 - P ∧ WR K C H D m' σ' F, fun _ _ z => z, ?_⟩
          obtain ⟨posP, lexP⟩ := later f ef
          have pl := pos_lt ef
          rw [lens_sum] at pl
          -- found
          refine ⟨_, rfl, sa, xs, ds, rfl, sA st2, dA st2, few, t2, fun u G3 tu g3 => ?_⟩
          rw [ef] at tu
          obtain ⟨q, rfl, hq⟩ := tu
          have st3 := st2.trans (g3.std t2)
          -- place
          refine ⟨_, rfl, q, f, rfl, hq, fun pp G4 npp hpp s4 => ?_⟩
          have st4 := st3.trans (same_std s4)
          have t4 := tbs_same g3.tb s4
          have hq4 := s4 _ _ hq
          have hpa4 := st4 _ _ hpa (fun ps z => by cases z)
          have hD4 := st4 _ _ hD (fun ps z => by cases z)
          obtain ⟨sf, rf, efv, dec, three, third⟩ := flt_at f
          have hq4' : G4 q = some (.tup (.str sf :: .int (tmF f : Nat) :: rf)) := by rw [← efv]; exact hq4
          refine nx_of ?_
          refine seq_mid (fun σ' F => Same G4 F ∧ σ' = [some (.ref sa), some (.ref pa), some (.ref D), some (.ref q), some (.ref pp), v5, v6, v7, v8]) (fun N hN => ?_) ?_
          · refine ⟨_, rfl, q, _, _, _, rfl, rfl, SqT.of hq4', atI_nat (j := 0) rfl, (show 3 ≤ sizeLine by decide), fun w nw => ?_⟩
            obtain ⟨G5, g5, s5, iw⟩ := al0 nw (.lst [V.str "team", .str "keeper", .str "twice"])
            rw [g5]
            have fl : ([V.str "team", .str "keeper", .str "twice"] : List V) = (["team", "keeper", "twice"] : List Str).map V.str := rfl
            refine ⟨w, _, rfl, .inl (SqL.of iw), rfl, rfl, _, rfl, ?_⟩
            have hin : inV (.str sf) [V.str "team", .str "keeper", .str "twice"] = true := by
              rw [fl, inV_strs]
              exact decide_eq_true (by rcases three with e | e | e <;> rw [e] <;> simp)
            rw [hin]
            refine iteF ?_
            refine ⟨_, rfl, _, rfl, pp, pa, [(tmF f : Nat), (kpF f : Nat) - 1], [aT, aK], rfl, rfl, SqT.of (s5 _ _ hpp), SqT.of (s5 _ _ hpa4), _, rfl, ?_⟩
            rw [lex_not lexP]
            refine iteF ?_
            exact hN _ _ ⟨s5, rfl⟩
          · rintro σ' G5 ⟨s5, rfl⟩
            have st5 := st4.trans (same_std s5)
            have t5 := tbs_same t4 s5
            have hq5 := s5 _ _ hq4'
            -- the teams ahead; a team more
            refine seq_mid (fun σ' F => Std G5 F ∧ Tbs C.tabs F ∧ σ' = [some (.ref sa), some (.ref pa), some (.ref D), some (.ref q), some (.ref pp), v5, v6, v7, v8]) (fun N hN => ?_) ?_
            · show tOr _ _ _ _ _
              refine tor_mid (fun b F => b = false ∧ Std G5 F ∧ Tbs C.tabs F) (fun M hM => ?_) ?_
              · refine ⟨_, rfl, _, rfl, q, _, _, _, rfl, rfl, SqT.of hq5, atI_nat (j := 1) rfl, _, rfl, sa, _, rfl, sA st5, fun b1 o1 => ?_⟩
                rw [cut_take]
                obtain ⟨G6, g6, s6, i6⟩ := al0 o1 (.lst (xs.take (tmF f)))
                rw [g6]
                have st6 := st5.trans (same_std s6)
                have fewT : Few (ds.take (tmF f)) := ⟨by rw [List.length_take]; have := few.n; omega, fun d hd => few.k d (List.mem_of_mem_take hd), fun d hd => few.sm d (List.mem_of_mem_take hd)⟩
                refine ⟨b1, xs.take (tmF f), ds.take (tmF f), rfl, SqL.of i6, dps_take (dA st6) _, fewT, tbs_same t5 s6, fun u G7 tu g7 => ?_⟩
                rw [fault_ahead ef] at tu
                cases (show u = .non from tu)
                refine ⟨rfl, _, rfl, iteF ?_⟩
                have s57 := (same_std s6).trans (g7.std (tbs_same t5 s6))
                have st7 := st5.trans s57
                refine ⟨_, rfl, sa, _, rfl, .inl (sA st7), _, _, rfl, rfl, _, rfl, ?_⟩
                by_cases l3 : (xs.length : Int) < 3
                · rw [decide_eq_true l3]
                  refine iteT ?_
                  refine ⟨_, rfl, (show 0 ≤ sizeLine by decide), fun c1 d1 => ?_⟩
                  obtain ⟨R1, r1, u1, m1⟩ := al0 d1 (.lst [])
                  rw [r1]
                  refine ⟨(show 2 ≤ sizeLine by decide), fun c2 d2 => ?_⟩
                  obtain ⟨R2, r2, u2, m2⟩ := al0 d2 (.tup [V.int 0, .ref c1])
                  rw [r2]
                  refine ⟨(show 1 ≤ sizeLine by decide), fun c3 d3 => ?_⟩
                  obtain ⟨R3, r3, u3, m3⟩ := al0 d3 (.lst [V.ref c2])
                  rw [r3]
                  have uu := u1.trans (u2.trans u3)
                  have stR := st7.trans (same_std uu)
                  refine ⟨sa, c3, _, _, rfl, rfl, sA stR, SqL.of m3, sz _ (by show _ + 1 ≤ _; omega), fun c4 d4 => ?_⟩
                  obtain ⟨R4, r4, u4, m4⟩ := al0 d4 (.lst (xs ++ [V.ref c2]))
                  rw [r4]
                  have stR4 := stR.trans (same_std u4)
                  have tR4 := tbs_same g7.tb (uu.trans u4)
                  have fewM : Few (ds ++ [.tuple [.int 0, .list []]]) := ⟨by rw [List.length_append]; show _ + 1 ≤ 10; omega, fun d hd => (List.mem_append.mp hd).elim (few.k d) fun z => by rw [List.mem_singleton.mp z]; exact Nat.zero_le _,
                    fun d hd => (List.mem_append.mp hd).elim (few.sm d) fun z => by rw [List.mem_singleton.mp z]; intro e he; cases he⟩
                  refine ⟨c4, _, ds ++ [.tuple [.int 0, .list []]], rfl, SqL.of m4, dps_app (dA stR4) (dps_one (.tup (SqT.of ((u3.trans u4) _ _ m2)) (.cons (.int 0) (.cons (.lst (SqL.of ((u2.trans (u3.trans u4)) _ _ m1)) .nil) .nil)))), fewM, tR4, fun u G8 tu g8 => ?_⟩
                  rw [fault_more ef] at tu
                  obtain ⟨q8, rfl, hq8⟩ := tu
                  have s58 := s57.trans ((same_std (uu.trans u4)).trans (g8.std tR4))
                  have hqq := s58 _ _ hq5 (fun ps z => by cases z)
                  have hqq : G8 q = some (.tup (fltV f)) := by rw [efv]; exact hqq
                  refine ⟨_, rfl, .tuple (fltD f), .tuple (fltD f), dp_flt hq8, dp_flt hqq, shaped_flt f, shaped_flt f, _, rfl, ?_⟩
                  rw [SeqAt.eqv_refl _ (SeqAt.canLay_of_shaped (shaped_flt f))]
                  exact hM _ _ ⟨rfl, s58, g8.tb⟩
                · rw [decide_eq_false l3]
                  refine iteF ?_
                  exact hM _ _ ⟨rfl, s57, g7.tb⟩
              · rintro b F ⟨rfl, sF, tF⟩
                refine iteF ?_
                exact hN _ _ ⟨sF, tF, rfl⟩
            · rintro σ' G6 ⟨s56, t6, rfl⟩
              have st6 := st5.trans s56
              have hq6 := s56 _ _ hq5 (fun ps z => by cases z)
              obtain ⟨nls, els, kls⟩ := kp_lt ef
              obtain ⟨tkf, df, edf, _, caseF⟩ := fault_at ef
              obtain ⟨l, ks, rfl, nl, ks8, kok⟩ := sl.ok df (List.mem_of_getElem? edf)
              have kle : kpF f ≤ ks.length := by
                rcases caseF with ⟨_, z⟩ | ⟨_, j, _, z, jl, _⟩
                · omega
                · have jl : j < ks.length := jl
                  omega
              obtain ⟨vt, evt, hvt⟩ := dps_get hxs edf
              -- the keepers ahead
              refine seq_mid (fun σ' F => Std G6 F ∧ Tbs C.tabs F ∧ ∃ v5, σ' = [some (.ref sa), some (.ref pa), some (.ref D), some (.ref q), some (.ref pp), v5, v6, v7, v8]) (fun N hN => ?_) ?_
              · refine ⟨_, rfl, q, _, _, _, rfl, rfl, SqT.of hq6, atI_nat (j := 0) rfl, rfl, _, rfl, ?_⟩
                rw [dec]
                by_cases h0 : kpF f = 0
                · rw [decide_eq_true h0]
                  refine iteF ?_
                  exact hN _ _ ⟨(fun c o h _ => h), t6, _, rfl⟩
                · rw [decide_eq_false h0]
                  refine iteT ?_
                  obtain ⟨r', er⟩ := third h0
                  have hq6' := hq6
                  rw [er] at hq6'
                  have hvt6 := dp_std st6 _ _ (dp_same (low _) hvt)
                  cases hvt6 with
                  | @tup ta zs _ qt pt =>
                    obtain ⟨vl, vk, f1, f2, rfl, ee, hvl, hvk⟩ := two pt (dps_len pt)
                    cases ee
                    cases hvk with
                    | @lst c ys _ qc pc =>
                      have ly := dps_len pc
                      refine ⟨_, rfl, _, rfl, q, _, _, _, rfl, rfl, SqT.of hq6', atI_nat (j := 1) rfl, sa, _, _, _, rfl, rfl, sA st6, atI_nat evt, ta, _, _, _, rfl, rfl, qt, rfl, _, rfl, q, _, _, _, rfl, rfl, SqT.of hq6', atI_nat (j := 2) rfl, _, rfl, c, _, rfl, qc, fun b1 o1 => ?_⟩
                      rw [cut_take]
                      obtain ⟨S1, e1, w1, j1⟩ := al0 o1 (.lst (ys.take (kpF f - 1)))
                      rw [e1]
                      have stS1 := st6.trans (same_std w1)
                      refine ⟨_, rfl, _, rfl, q, _, _, _, rfl, rfl, SqT.of (w1 _ _ hq6'), atI_nat (j := 1) rfl, _, rfl, sa, _, rfl, sA stS1, fun b2 o2 => ?_⟩
                      rw [cut_take]
                      obtain ⟨S2, e2, w2, j2⟩ := al0 o2 (.lst (xs.take (tmF f)))
                      rw [e2]
                      refine ⟨_, rfl, (show 2 ≤ sizeLine by decide), fun b3 o3 => ?_⟩
                      obtain ⟨S3, e3, w3, j3⟩ := al0 o3 (.tup [V.int 0, .ref b1])
                      rw [e3]
                      refine ⟨(show 1 ≤ sizeLine by decide), fun b4 o4 => ?_⟩
                      obtain ⟨S4, e4, w4, j4⟩ := al0 o4 (.lst [V.ref b3])
                      rw [e4]
                      refine ⟨b2, b4, _, _, rfl, rfl, SqL.of ((w3.trans w4) _ _ j2), SqL.of j4, sz _ (by rw [List.length_take]; show _ + 1 ≤ _; omega), fun b5 o5 => ?_⟩
                      obtain ⟨S5, e5, w5, j5⟩ := al0 o5 (.lst (xs.take (tmF f) ++ [V.ref b3]))
                      rw [e5]
                      have w25 := w2.trans (w3.trans (w4.trans w5))
                      have ww := w1.trans w25
                      have stS := st6.trans (same_std ww)
                      have tS := tbs_same t6 ww
                      have hdat : DpAll K S5 (xs.take (tmF f) ++ [V.ref b3]) (ds.take (tmF f) ++ [.tuple [.int 0, .list (ks.take (kpF f - 1))]]) := dps_app (dps_take (dA stS) _) (dps_one (.tup (SqT.of ((w4.trans w5) _ _ j3)) (.cons (.int 0) (.cons (.lst (SqL.of (w25 _ _ j1)) (dps_take (dps_same (w2.trans (w3.trans (w4.trans w5))) (dps_same w1 pc)) _)) .nil))))
                      have fewC : Few (ds.take (tmF f) ++ [.tuple [.int 0, .list (ks.take (kpF f - 1))]]) := ⟨by rw [List.length_append, List.length_take]; show _ + 1 ≤ 10; omega,
                        fun d hd => (List.mem_append.mp hd).elim (fun z => few.k d (List.mem_of_mem_take z)) fun z => by rw [List.mem_singleton.mp z]; show (ks.take (kpF f - 1)).length ≤ 100; rw [List.length_take]; omega,
                        fun d hd => (List.mem_append.mp hd).elim (fun z => few.sm d (List.mem_of_mem_take z)) fun z => by rw [List.mem_singleton.mp z]; exact fun e he => few.sm _ (List.mem_of_getElem? edf) e (List.mem_of_mem_take he)⟩
                      refine ⟨b5, _, _, rfl, SqL.of j5, hdat, fewC, tS, fun u G8 tu g8 => ?_⟩
                      rw [fault_cut ef edf (j := kpF f - 1) (by omega)] at tu
                      cases (show u = .non from tu)
                      refine ⟨rfl, _, rfl, iteF ?_⟩
                      exact hN _ _ ⟨(same_std ww).trans (g8.std tS), g8.tb, _, rfl⟩
              · rintro σ' G7 ⟨s67, t7, v5', rfl⟩
                have st7 := st6.trans s67
                have hq7 := s67 _ _ hq6 (fun ps z => by cases z)
                have hq7 : G7 q = some (.tup (fltV f)) := by rw [efv]; exact hq7
                have hD7 := st7 _ _ hD (fun ps z => by cases z)
                have n20 : n < 20 := by omega
                -- spare.pop(0)
                have itn : ((((List.range 20).drop n).map spn).map V.str)[0]? = some (V.str (spn n)) := by
                  rw [List.getElem?_map, List.getElem?_map, List.getElem?_drop, Nat.add_zero, List.getElem?_range n20]
                  rfl
                have ers : ((((List.range 20).drop n).map spn).map V.str).eraseIdx 0 = (((List.range 20).drop (n + 1)).map spn).map V.str := by
                  rw [List.eraseIdx_zero, ← List.map_tail, ← List.map_tail, List.tail_drop]
                have len0 : 0 < ((((List.range 20).drop n).map spn).map V.str).length := (List.getElem?_eq_some_iff.mp itn).1
                refine ⟨_, rfl, _, rfl, _, rfl, .inl ⟨rfl, _, SqL.of hD7⟩, D, _, 0, 0, _, rfl, rfl, hD7, by decide, by decide, seq_at len0, itn, ?_⟩
                rw [ers]
                obtain ⟨G8, e8⟩ : ∃ G8, G8 = upd G7 D (.lst ((((List.range 20).drop (n + 1)).map spn).map V.str)) := ⟨_, rfl⟩
                rw [← e8]
                have hD8 : G8 D = some (.lst ((((List.range 20).drop (n + 1)).map spn).map V.str)) := by rw [e8]; exact upd_same
                have x78 : Ex D G7 G8 := by rw [e8]; exact ex_put
                have qD : q ≠ D := fun z => by rw [z, hD7] at hq7; cases hq7
                have hq8 : G8 q = some (.tup (fltV f)) := by rw [e8, upd_ne qD]; exact hq7
                have t8 : Tbs C.tabs G8 := fun p hp => by
                  obtain ⟨ys, h, r⟩ := t7 p hp
                  refine ⟨ys, ?_, r⟩
                  have pD : p ≠ D := fun z => by rw [z, hD7] at h; cases h
                  rw [e8, upd_ne pD]
                  exact h
                have hd8 : Dp K (Of1 D G8) (.ref sa) (.list ds) := dp_same x78 (dp_std (of1_std st7) _ _ (.lst qs hxs))
                have hpp7 : G7 pp = some (.tup [.int (tmF f : Nat), .int ((kpF f : Nat) - 1)]) := s67 _ _ (s56 _ _ (s5 _ _ hpp) (fun ps z => by cases z)) (fun ps z => by cases z)
                have ppD : pp ≠ D := fun z => by rw [z, hD7] at hpp7; cases hpp7
                have hpp8 : G8 pp = some (.tup [.int (tmF f : Nat), .int ((kpF f : Nat) - 1)]) := by rw [e8, upd_ne ppD]; exact hpp7
                refine ⟨sa, q, D, _, spn n, f, ds, l, ks, rfl, hq8, hD8, hd8, t3, edf, ks8, kle, fun an G9 hn x89 hD9 => ?_⟩
                have s89 := same_ex x89 hD8 hD9
                refine ⟨_, rfl, ?_⟩
                -- the next turn
                have fresh : ∀ d ∈ ds.flatMap kidsD, nameOf d ≠ spn n := fun d hd => by
                  obtain ⟨dd, hdd, hm⟩ := List.mem_flatMap.mp hd
                  obtain ⟨l', ks', rfl, _, _, kk⟩ := sl.ok dd hdd
                  exact spn_fresh (kk d hm) n20
                have lenE : lens (mendD ds f (spn n) l ks) = lens ds := by
                  unfold mendD
                  refine lens_put edf ?_
                  by_cases h0 : kpF f = 0
                  · rw [if_pos h0]
                    rfl
                  · rw [if_neg h0]
                    show (ks.take (kpF f - 1) ++ [frD (spn n)] ++ ks.drop (kpF f)).length = ks.length
                    have e : kpF f = (kpF f - 1) + 1 := by omega
                    have e' : ks.drop (kpF f) = ks.drop ((kpF f - 1) + 1) := by rw [← e]
                    rw [e']
                    exact put_len (by omega)
                have slN : SlS 18 (n + 1) (mendD ds f (spn n) l ks) := by
                  unfold mendD
                  by_cases h0 : kpF f = 0
                  · rw [if_pos h0]
                    exact ss_put sl edf ⟨_, _, rfl, (nic_int (by decide)).more (by decide) (by decide), ks8, fun x hx => (kok x hx).more (Nat.le_refl _) (by omega)⟩ rfl (Nat.le_refl _) (by omega)
                  · rw [if_neg h0]
                    have e : kpF f = (kpF f - 1) + 1 := by omega
                    have e' : ks.drop (kpF f) = ks.drop ((kpF f - 1) + 1) := by rw [← e]
                    rw [e']
                    have pl' := put_len (ks := ks) (k := kpF f - 1) (d := frD (spn n)) (by omega)
                    refine ss_put sl edf ⟨_, _, rfl, nl, by rw [pl']; exact ks8, fun x hx => ?_⟩ pl' (Nat.le_refl _) (by omega)
                    rcases List.mem_append.mp hx with z | z
                    · rcases List.mem_append.mp z with z | z
                      · exact (kok x (List.mem_of_mem_take z)).more (Nat.le_refl _) (by omega)
                      · rw [List.mem_singleton.mp z]
                        exact ⟨spn n, 1, .bool true, [], rfl, .inr ⟨n, by omega, rfl⟩, by decide, by decide, .inl ⟨true, rfl⟩, w8_nil, Nat.zero_le _⟩
                    · exact (kok x (List.mem_of_mem_drop z)).more (Nat.le_refl _) (by omega)
                have nextF : ∀ g, faultD (mendD ds f (spn n) l ks) = some g → Later f g := fun g hg => by
                  unfold mendD at hg
                  by_cases h0 : kpF f = 0
                  · rw [if_pos h0] at hg
                    exact mend_team ef edf h0 hg
                  · rw [if_neg h0] at hg
                    have e : kpF f = (kpF f - 1) + 1 := by omega
                    have e' : ks.drop (kpF f) = ks.drop ((kpF f - 1) + 1) := by rw [← e]
                    rw [e'] at hg
                    exact mend_keep ef edf e (spn_name n n20) fresh hg
                have stN : Std H G9 := ((std_over (stG.trans st7) nD0).trans (by rw [← e8]; exact same_std s89))
                refine ⟨_, (by show 30 - (posF (lens ds) f + 1) < 30 - P; omega), stN, tbs_same t8 s89, an, pp, mendD ds f (spn n) l ks, n + 1, posF (lens ds) f + 1, (tmF f : Nat), (kpF f : Nat) - 1, _, _, _, _, _, _, rfl, by omega, by omega, hn, slN, s89 _ _ hpp8, hD9, fun g hg => ?_, rfl⟩
                have la := nextF g hg
                have pm := pos_mono ef la
                rw [lenE]
                refine ⟨pm, ?_⟩
                rcases la with z | ⟨z1, z2⟩
                · exact .inl (by omega)
                · exact .inr ⟨by omega, by omega⟩
end
end My
namespace My
open PySem PySem.Spec PyProof.Rows L2
open GxR (TabB TabG Tabbed)
theorem kp_s {k : Kp} (h : KpOk k) : KpS 12 0 (dKp k) := ⟨k.name, k.room, .bool k.whole, k.row, rfl, .inl h.n8, h.r1, by have := h.r12; omega, .inl ⟨_, rfl⟩, h.w8, h.l12⟩
theorem flat_bd (bd : List Tm) : ((bd.map dTm).flatMap kidsD).length = (bd.flatMap (·.ks)).length := by
  induction bd with
  | nil => rfl
  | cons t r ih =>
    rw [List.map_cons, List.flatMap_cons, List.flatMap_cons, List.length_append, List.length_append, ih]
    show (t.ks.map dKp).length + _ = _
    rw [List.length_map]
theorem sl_bd {bd : List Tm} (h : BdOk bd) : SlS 12 0 (bd.map dTm) := by
  refine ⟨by rw [List.length_map]; exact h.t3, by rw [flat_bd]; exact h.tot, fun d hd => ?_⟩
  obtain ⟨t, ht, rfl⟩ := List.mem_map.mp hd
  have q := h.ok t ht
  refine ⟨_, _, rfl, (nic_int (ints_le (by have := q.l0; omega) (by have := q.l9; omega))).more (by decide) (by decide), by rw [List.length_map]; exact q.k8, fun k hk => ?_⟩
  obtain ⟨kp, hkp, rfl⟩ := List.mem_map.mp hk
  exact kp_s (q.ok kp hkp)
def spLaw (K : PySem.W.Frag) (C : Cd) : Sp := fun vs H Q _ => ∃ (a : Addr) (ns : List Int), vs = [.ref a] ∧ SqL K H a (ns.map V.int) ∧ ns.length ≤ 63 ∧ Tbs C.tabs H ∧ ∀ H', Q (.bl true) H'
section
variable {P : Program} {w : World} {K : PySem.W.Frag} {mg : Str → Option Value} {base : Heap} {A : Ad} {C : Cd}
theorem ok_law {f : Addr} {fd : FuncData} (F : Fun K "law" "law" s_law f fd) (T : Txt K mg A) (TB : TBs base mg C A) : FnG P w K mg base CX0 9 f fd P_law (spLaw K C) := by
  refine okG F sc_law (fun vs H Q E h => ?_) (fun cdv A' outer s H vs Q E gd hr h => ?_)
  · obtain ⟨a, ns, rfl, _⟩ := h
    rfl
  · obtain ⟨a, ns, rfl, hS, n63, tb, k⟩ := h
    refine ⟨_, (pss_cons (ps_set (i := 1) sc_law.nd rfl (Or.inl rfl) (pe_call (ok_bag T) (hr.mono (by decide)) rfl T.g_bag T.F_bag.kp T.b_bag .nil pass0 (pa_cons (pv 0) pa_nil)))
    (pss_cons (ps_for PassesOwn.never rfl (pi_range1 (by rfl) T.n_range (pa_cons pe_int pa_nil)) (pg_name (i := 2) sc_law.nd rfl (Or.inl rfl))
      (pss_cons (ps_set (i := 3) sc_law.nd rfl (Or.inl rfl) (pe_call (ok_board T) (hr.mono (by decide)) rfl T.g_board T.F_board.kp T.b_board .nil pass0 (pa_cons (pv 1) pa_nil)))
      (pss_cons (ps_for PassesOwn.never rfl (pi_range1 (by rfl) T.n_range (pa_cons (pe_call (ok_draw T) (hr.mono (by decide)) rfl T.g_draw T.F_draw.kp T.b_draw .nil pass0 (pa_cons (pv 1) (pa_cons pe_int pa_nil))) pa_nil)) (pg_name (i := 4) sc_law.nd rfl (Or.inl rfl))
        (pss_one (ps_set (i := 3) sc_law.nd rfl (Or.inl rfl) (pe_call (ok_bent T) (hr.mono (by decide)) rfl T.g_bent T.F_bent.kp T.b_bent .nil pass0 (pa_cons (pv 1) (pa_cons (pv 3) pa_nil))))))
      (pss_one (ps_if (pt_not (pt_val (pe_call (ok_right T TB) (hr.mono (by decide)) rfl T.g_right T.F_right.kp T.b_right .nil pass0 (pa_cons (pv 3) pa_nil))))
        (pss_one (ps_ret pe_bl))
        pss_nil)))))
    (pss_one (ps_ret pe_bl)))), ?_⟩
    refine ⟨_, rfl, a, ns, rfl, hS, n63, fun b l H1 nb nl B1 s1 => ?_⟩
    have off := off_same b l
    refine ⟨6, rfl, by decide, by decide, for_range (lo := 0) (n := 6) (fun i σ H' => Bag H' b l ∧ Tbs C.tabs H' ∧ ∃ v2 v3 v4, σ = [some (.ref a), some (.ref b), v2, v3, v4])
      ⟨B1, tbs_same tb s1, _, _, _, rfl⟩ ?_ ?_⟩
    · rintro i0 σ H2 hi0 ⟨B2, t2, v2, v3, v4, rfl⟩
      refine ⟨_, rfl, b, l, rfl, B2, fun ad bd H3 ok hb B3 x3 => ?_⟩
      have hd3 := dp_same (nw_off B2) (dp_bd (K := K) hb)
      refine ⟨_, rfl, b, l, 7, rfl, B3, by decide, by decide, fun r H4 r0 r1 B4 x4 => ?_⟩
      have t4 := tbs_ext t2 B2 (x3.trans x4)
      refine ⟨r, rfl, by omega, by omega, for_range (lo := 0) (n := r.toNat) (fun j σ H' => Bag H' b l ∧ Tbs C.tabs H' ∧ ∃ sa ds v4, SlS (12 + j) 0 ds ∧ Dp K (Off b l H') (.ref sa) (.list ds) ∧ σ = [some (.ref a), some (.ref b), some (.int (0 + (i0 : Int))), some (.ref sa), v4])
        ⟨B4, t4, ad, _, _, sl_bd ok, dp_same x4 hd3, rfl⟩ ?_ ?_⟩
      · rintro j σ H5 hj ⟨B5, t5, sa, ds, v4, sl, hd, rfl⟩
        refine ⟨_, rfl, _, rfl, b, l, sa, ds, 12 + j, rfl, B5, hd, sl, by omega, by omega, fun an ds' H6 sl' hd' B6 x6 => ?_⟩
        exact ⟨B6, tbs_ext t5 B5 x6, an, ds', _, sl', hd', rfl⟩
      · rintro σ H5 ⟨B5, t5, sa, ds, v4, sl, hd, rfl⟩
        have sl18 : SlS 18 0 ds := ⟨sl.t3, sl.k8, fun d hd => (sl.ok d hd).more (by omega) (Nat.le_refl _)⟩
        refine ⟨_, rfl, sa, ds, rfl, dp_same (off _) hd, sl18, t5, fun H6 st6 t6 => ⟨_, rfl, ?_⟩⟩
        refine iteF ?_
        exact ⟨B5.std st6, t6, _, _, _, rfl⟩
    · rintro σ H2 ⟨B2, t2, v2, v3, v4, rfl⟩
      exact k H2
end
end My
namespace My
open PySem PySem.Spec PyProof.Rows L2
theorem all_mk {l : PySem.W.OpenLaw} {q : Program} {w : World} {K : PySem.W.Frag} {h : Heap} {mg : Str → Option Value} {fa kn pn kr pr f0 f1 f2 f3 f4 f5 f6 f7 f8 f9 f10 f11 f12 f13 f14 f15 f16 f17 f18  : Addr} (X : K.In h) (G : h.Ns mainGlobals mg) (hfa : mg "law" = some (.ref fa))
    {od0 an0 : Option Addr} {sl0 : Array (Option Value)} {oc0 kV0 dc0 pm0 cd0 ct0 : Value}
    {od1 an1 : Option Addr} {sl1 : Array (Option Value)} {oc1 kV1 dc1 pm1 cd1 ct1 : Value}
    {od2 an2 : Option Addr} {sl2 : Array (Option Value)} {oc2 kV2 dc2 pm2 cd2 ct2 : Value}
    {od3 an3 : Option Addr} {sl3 : Array (Option Value)} {oc3 kV3 dc3 pm3 cd3 ct3 : Value}
    {od4 an4 : Option Addr} {sl4 : Array (Option Value)} {oc4 kV4 dc4 pm4 cd4 ct4 : Value}
    {od5 an5 : Option Addr} {sl5 : Array (Option Value)} {oc5 kV5 dc5 pm5 cd5 ct5 : Value}
    {od6 an6 : Option Addr} {sl6 : Array (Option Value)} {oc6 kV6 dc6 pm6 cd6 ct6 : Value}
    {od7 an7 : Option Addr} {sl7 : Array (Option Value)} {oc7 kV7 dc7 pm7 cd7 ct7 : Value}
    {od8 an8 : Option Addr} {sl8 : Array (Option Value)} {oc8 kV8 dc8 pm8 cd8 ct8 : Value}
    {od9 an9 : Option Addr} {sl9 : Array (Option Value)} {oc9 kV9 dc9 pm9 cd9 ct9 : Value}
    {od10 an10 : Option Addr} {sl10 : Array (Option Value)} {oc10 kV10 dc10 pm10 cd10 ct10 : Value}
    {od11 an11 : Option Addr} {sl11 : Array (Option Value)} {oc11 kV11 dc11 pm11 cd11 ct11 : Value}
    {od12 an12 : Option Addr} {sl12 : Array (Option Value)} {oc12 kV12 dc12 pm12 cd12 ct12 : Value}
    {od13 an13 : Option Addr} {sl13 : Array (Option Value)} {oc13 kV13 dc13 pm13 cd13 ct13 : Value}
    {od14 an14 : Option Addr} {sl14 : Array (Option Value)} {oc14 kV14 dc14 pm14 cd14 ct14 : Value}
    {od15 an15 : Option Addr} {sl15 : Array (Option Value)} {oc15 kV15 dc15 pm15 cd15 ct15 : Value}
    {od16 an16 : Option Addr} {sl16 : Array (Option Value)} {oc16 kV16 dc16 pm16 cd16 ct16 : Value}
    {od17 an17 : Option Addr} {sl17 : Array (Option Value)} {oc17 kV17 dc17 pm17 cd17 ct17 : Value}
    {od18 an18 : Option Addr} {sl18 : Array (Option Value)} {oc18 kV18 dc18 pm18 cd18 ct18 : Value}
    {tk_LETTERS : Tok}
    {tk_MOST_LETTERS : Tok}
    {tk_MOST_ROOM : Tok}
    (a0 : PySem.W.nsIn K mainGlobals "is_number" = some (some (.ref f0)))
    (l0 : K.lookup f0 = some ⟨oc0, od0, .func (PySem.W.fnOf "is_number" "is_number" (defArgs s_is_number) (defBody s_is_number) (defScope s_is_number) .none kV0 dc0 pm0 an0 cd0 ct0), sl0⟩)
    (c0 : PySem.W.codeIn K cd0 "is_number" = true)
    (k0 : PySem.W.keepIn K (.ref f0) = true)
    (a1 : PySem.W.nsIn K mainGlobals "is_name" = some (some (.ref f1)))
    (l1 : K.lookup f1 = some ⟨oc1, od1, .func (PySem.W.fnOf "is_name" "is_name" (defArgs s_is_name) (defBody s_is_name) (defScope s_is_name) .none kV1 dc1 pm1 an1 cd1 ct1), sl1⟩)
    (c1 : PySem.W.codeIn K cd1 "is_name" = true)
    (k1 : PySem.W.keepIn K (.ref f1) = true)
    (a2 : PySem.W.nsIn K mainGlobals "is_room" = some (some (.ref f2)))
    (l2 : K.lookup f2 = some ⟨oc2, od2, .func (PySem.W.fnOf "is_room" "is_room" (defArgs s_is_room) (defBody s_is_room) (defScope s_is_room) .none kV2 dc2 pm2 an2 cd2 ct2), sl2⟩)
    (c2 : PySem.W.codeIn K cd2 "is_room" = true)
    (k2 : PySem.W.keepIn K (.ref f2) = true)
    (a3 : PySem.W.nsIn K mainGlobals "is_row" = some (some (.ref f3)))
    (l3 : K.lookup f3 = some ⟨oc3, od3, .func (PySem.W.fnOf "is_row" "is_row" (defArgs s_is_row) (defBody s_is_row) (defScope s_is_row) .none kV3 dc3 pm3 an3 cd3 ct3), sl3⟩)
    (c3 : PySem.W.codeIn K cd3 "is_row" = true)
    (k3 : PySem.W.keepIn K (.ref f3) = true)
    (a4 : PySem.W.nsIn K mainGlobals "is_keeper" = some (some (.ref f4)))
    (l4 : K.lookup f4 = some ⟨oc4, od4, .func (PySem.W.fnOf "is_keeper" "is_keeper" (defArgs s_is_keeper) (defBody s_is_keeper) (defScope s_is_keeper) .none kV4 dc4 pm4 an4 cd4 ct4), sl4⟩)
    (c4 : PySem.W.codeIn K cd4 "is_keeper" = true)
    (k4 : PySem.W.keepIn K (.ref f4) = true)
    (a5 : PySem.W.nsIn K mainGlobals "is_team" = some (some (.ref f5)))
    (l5 : K.lookup f5 = some ⟨oc5, od5, .func (PySem.W.fnOf "is_team" "is_team" (defArgs s_is_team) (defBody s_is_team) (defScope s_is_team) .none kV5 dc5 pm5 an5 cd5 ct5), sl5⟩)
    (c5 : PySem.W.codeIn K cd5 "is_team" = true)
    (k5 : PySem.W.keepIn K (.ref f5) = true)
    (a6 : PySem.W.nsIn K mainGlobals "fault" = some (some (.ref f6)))
    (l6 : K.lookup f6 = some ⟨oc6, od6, .func (PySem.W.fnOf "fault" "fault" (defArgs s_fault) (defBody s_fault) (defScope s_fault) .none kV6 dc6 pm6 an6 cd6 ct6), sl6⟩)
    (c6 : PySem.W.codeIn K cd6 "fault" = true)
    (k6 : PySem.W.keepIn K (.ref f6) = true)
    (a7 : PySem.W.nsIn K mainGlobals "keepers_of" = some (some (.ref f7)))
    (l7 : K.lookup f7 = some ⟨oc7, od7, .func (PySem.W.fnOf "keepers_of" "keepers_of" (defArgs s_keepers_of) (defBody s_keepers_of) (defScope s_keepers_of) .none kV7 dc7 pm7 an7 cd7 ct7), sl7⟩)
    (c7 : PySem.W.codeIn K cd7 "keepers_of" = true)
    (k7 : PySem.W.keepIn K (.ref f7) = true)
    (a8 : PySem.W.nsIn K mainGlobals "names" = some (some (.ref f8)))
    (l8 : K.lookup f8 = some ⟨oc8, od8, .func (PySem.W.fnOf "names" "names" (defArgs s_names) (defBody s_names) (defScope s_names) .none kV8 dc8 pm8 an8 cd8 ct8), sl8⟩)
    (c8 : PySem.W.codeIn K cd8 "names" = true)
    (k8 : PySem.W.keepIn K (.ref f8) = true)
    (a9 : PySem.W.nsIn K mainGlobals "_law_bag" = some (some (.ref f9)))
    (l9 : K.lookup f9 = some ⟨oc9, od9, .func (PySem.W.fnOf "_law_bag" "_law_bag" (defArgs s_bag) (defBody s_bag) (defScope s_bag) .none kV9 dc9 pm9 an9 cd9 ct9), sl9⟩)
    (c9 : PySem.W.codeIn K cd9 "_law_bag" = true)
    (k9 : PySem.W.keepIn K (.ref f9) = true)
    (a10 : PySem.W.nsIn K mainGlobals "_law_draw" = some (some (.ref f10)))
    (l10 : K.lookup f10 = some ⟨oc10, od10, .func (PySem.W.fnOf "_law_draw" "_law_draw" (defArgs s_draw) (defBody s_draw) (defScope s_draw) .none kV10 dc10 pm10 an10 cd10 ct10), sl10⟩)
    (c10 : PySem.W.codeIn K cd10 "_law_draw" = true)
    (k10 : PySem.W.keepIn K (.ref f10) = true)
    (a11 : PySem.W.nsIn K mainGlobals "_law_pool" = some (some (.ref f11)))
    (l11 : K.lookup f11 = some ⟨oc11, od11, .func (PySem.W.fnOf "_law_pool" "_law_pool" (defArgs s_pool) (defBody s_pool) (defScope s_pool) .none kV11 dc11 pm11 an11 cd11 ct11), sl11⟩)
    (c11 : PySem.W.codeIn K cd11 "_law_pool" = true)
    (k11 : PySem.W.keepIn K (.ref f11) = true)
    (a12 : PySem.W.nsIn K mainGlobals "_law_keeper" = some (some (.ref f12)))
    (l12 : K.lookup f12 = some ⟨oc12, od12, .func (PySem.W.fnOf "_law_keeper" "_law_keeper" (defArgs s_keeper) (defBody s_keeper) (defScope s_keeper) .none kV12 dc12 pm12 an12 cd12 ct12), sl12⟩)
    (c12 : PySem.W.codeIn K cd12 "_law_keeper" = true)
    (k12 : PySem.W.keepIn K (.ref f12) = true)
    (a13 : PySem.W.nsIn K mainGlobals "_law_board" = some (some (.ref f13)))
    (l13 : K.lookup f13 = some ⟨oc13, od13, .func (PySem.W.fnOf "_law_board" "_law_board" (defArgs s_board) (defBody s_board) (defScope s_board) .none kV13 dc13 pm13 an13 cd13 ct13), sl13⟩)
    (c13 : PySem.W.codeIn K cd13 "_law_board" = true)
    (k13 : PySem.W.keepIn K (.ref f13) = true)
    (a14 : PySem.W.nsIn K mainGlobals "_law_bent" = some (some (.ref f14)))
    (l14 : K.lookup f14 = some ⟨oc14, od14, .func (PySem.W.fnOf "_law_bent" "_law_bent" (defArgs s_bent) (defBody s_bent) (defScope s_bent) .none kV14 dc14 pm14 an14 cd14 ct14), sl14⟩)
    (c14 : PySem.W.codeIn K cd14 "_law_bent" = true)
    (k14 : PySem.W.keepIn K (.ref f14) = true)
    (a15 : PySem.W.nsIn K mainGlobals "_law_place" = some (some (.ref f15)))
    (l15 : K.lookup f15 = some ⟨oc15, od15, .func (PySem.W.fnOf "_law_place" "_law_place" (defArgs s_place) (defBody s_place) (defScope s_place) .none kV15 dc15 pm15 an15 cd15 ct15), sl15⟩)
    (c15 : PySem.W.codeIn K cd15 "_law_place" = true)
    (k15 : PySem.W.keepIn K (.ref f15) = true)
    (a16 : PySem.W.nsIn K mainGlobals "_law_mended" = some (some (.ref f16)))
    (l16 : K.lookup f16 = some ⟨oc16, od16, .func (PySem.W.fnOf "_law_mended" "_law_mended" (defArgs s_mended) (defBody s_mended) (defScope s_mended) .none kV16 dc16 pm16 an16 cd16 ct16), sl16⟩)
    (c16 : PySem.W.codeIn K cd16 "_law_mended" = true)
    (k16 : PySem.W.keepIn K (.ref f16) = true)
    (a17 : PySem.W.nsIn K mainGlobals "_law_right" = some (some (.ref f17)))
    (l17 : K.lookup f17 = some ⟨oc17, od17, .func (PySem.W.fnOf "_law_right" "_law_right" (defArgs s_right) (defBody s_right) (defScope s_right) .none kV17 dc17 pm17 an17 cd17 ct17), sl17⟩)
    (c17 : PySem.W.codeIn K cd17 "_law_right" = true)
    (k17 : PySem.W.keepIn K (.ref f17) = true)
    (a18 : PySem.W.nsIn K mainGlobals "law" = some (some (.ref f18)))
    (l18 : K.lookup f18 = some ⟨oc18, od18, .func (PySem.W.fnOf "law" "law" (defArgs s_law) (defBody s_law) (defScope s_law) .none kV18 dc18 pm18 an18 cd18 ct18), sl18⟩)
    (c18 : PySem.W.codeIn K cd18 "law" = true)
    (k18 : PySem.W.keepIn K (.ref f18) = true)
    (v_LETTERS : PySem.W.nsIn K mainGlobals "LETTERS" = some (some (.str "abcdefghijklmnopqrstuvwxyz" tk_LETTERS)))
    (v_MOST_LETTERS : PySem.W.nsIn K mainGlobals "MOST_LETTERS" = some (some (.int 8 tk_MOST_LETTERS)))
    (v_MOST_ROOM : PySem.W.nsIn K mainGlobals "MOST_ROOM" = some (some (.int 12 tk_MOST_ROOM)))
    (n_abs : PySem.W.nsIn K mainGlobals "abs" = some none)
    (n_all : PySem.W.nsIn K mainGlobals "all" = some none)
    (n_bool : PySem.W.nsIn K mainGlobals "bool" = some none)
    (n_enumerate : PySem.W.nsIn K mainGlobals "enumerate" = some none)
    (n_int : PySem.W.nsIn K mainGlobals "int" = some none)
    (n_isinstance : PySem.W.nsIn K mainGlobals "isinstance" = some none)
    (n_len : PySem.W.nsIn K mainGlobals "len" = some none)
    (n_list : PySem.W.nsIn K mainGlobals "list" = some none)
    (n_range : PySem.W.nsIn K mainGlobals "range" = some none)
    (n_set : PySem.W.nsIn K mainGlobals "set" = some none)
    (n_sorted : PySem.W.nsIn K mainGlobals "sorted" = some none)
    (n_str : PySem.W.nsIn K mainGlobals "str" = some none)
    (n_sum : PySem.W.nsIn K mainGlobals "sum" = some none)
    (n_tuple : PySem.W.nsIn K mainGlobals "tuple" = some none)
    (ts : TabsOf q K h)
    (rt_is_name : ((recsOf q).any fun e => e.name == ("is_name" : Str)) = true)
    (ti_is_name : PySem.W.tabIn K "is_name" = some (kn, pn))
    (tz_is_name : K.lookup pn = none)
    (te_is_name : cd1 = .ref kn)
    (rt_is_row : ((recsOf q).any fun e => e.name == ("is_row" : Str)) = true)
    (ti_is_row : PySem.W.tabIn K "is_row" = some (kr, pr))
    (tz_is_row : K.lookup pr = none)
    (te_is_row : cd3 = .ref kr) :
    LawGT l w K CX0 9 63 "script" mg fa h := by
  have e := hfa.symm.trans (PySem.W.mg_of X G a18)
  cases e
  have F0 := fun_mk (st := s_is_number) l0 c0 k0
  have F1 := fun_mk (st := s_is_name) l1 c1 k1
  have F2 := fun_mk (st := s_is_room) l2 c2 k2
  have F3 := fun_mk (st := s_is_row) l3 c3 k3
  have F4 := fun_mk (st := s_is_keeper) l4 c4 k4
  have F5 := fun_mk (st := s_is_team) l5 c5 k5
  have F6 := fun_mk (st := s_fault) l6 c6 k6
  have F7 := fun_mk (st := s_keepers_of) l7 c7 k7
  have F8 := fun_mk (st := s_names) l8 c8 k8
  have F9 := fun_mk (st := s_bag) l9 c9 k9
  have F10 := fun_mk (st := s_draw) l10 c10 k10
  have F11 := fun_mk (st := s_pool) l11 c11 k11
  have F12 := fun_mk (st := s_keeper) l12 c12 k12
  have F13 := fun_mk (st := s_board) l13 c13 k13
  have F14 := fun_mk (st := s_bent) l14 c14 k14
  have F15 := fun_mk (st := s_place) l15 c15 k15
  have F16 := fun_mk (st := s_mended) l16 c16 k16
  have F17 := fun_mk (st := s_right) l17 c17 k17
  have F18 := fun_mk (st := s_law) l18 c18 k18
  let A : Ad := { f_is_number := f0, d_is_number := PySem.W.fnOf "is_number" "is_number" (defArgs s_is_number) (defBody s_is_number) (defScope s_is_number) .none kV0 dc0 pm0 an0 cd0 ct0, f_is_name := f1, d_is_name := PySem.W.fnOf "is_name" "is_name" (defArgs s_is_name) (defBody s_is_name) (defScope s_is_name) .none kV1 dc1 pm1 an1 cd1 ct1, f_is_room := f2, d_is_room := PySem.W.fnOf "is_room" "is_room" (defArgs s_is_room) (defBody s_is_room) (defScope s_is_room) .none kV2 dc2 pm2 an2 cd2 ct2, f_is_row := f3, d_is_row := PySem.W.fnOf "is_row" "is_row" (defArgs s_is_row) (defBody s_is_row) (defScope s_is_row) .none kV3 dc3 pm3 an3 cd3 ct3, f_is_keeper := f4, d_is_keeper := PySem.W.fnOf "is_keeper" "is_keeper" (defArgs s_is_keeper) (defBody s_is_keeper) (defScope s_is_keeper) .none kV4 dc4 pm4 an4 cd4 ct4, f_is_team := f5, d_is_team := PySem.W.fnOf "is_team" "is_team" (defArgs s_is_team) (defBody s_is_team) (defScope s_is_team) .none kV5 dc5 pm5 an5 cd5 ct5, f_fault := f6, d_fault := PySem.W.fnOf "fault" "fault" (defArgs s_fault) (defBody s_fault) (defScope s_fault) .none kV6 dc6 pm6 an6 cd6 ct6, f_keepers_of := f7, d_keepers_of := PySem.W.fnOf "keepers_of" "keepers_of" (defArgs s_keepers_of) (defBody s_keepers_of) (defScope s_keepers_of) .none kV7 dc7 pm7 an7 cd7 ct7, f_names := f8, d_names := PySem.W.fnOf "names" "names" (defArgs s_names) (defBody s_names) (defScope s_names) .none kV8 dc8 pm8 an8 cd8 ct8, f_bag := f9, d_bag := PySem.W.fnOf "_law_bag" "_law_bag" (defArgs s_bag) (defBody s_bag) (defScope s_bag) .none kV9 dc9 pm9 an9 cd9 ct9, f_draw := f10, d_draw := PySem.W.fnOf "_law_draw" "_law_draw" (defArgs s_draw) (defBody s_draw) (defScope s_draw) .none kV10 dc10 pm10 an10 cd10 ct10, f_pool := f11, d_pool := PySem.W.fnOf "_law_pool" "_law_pool" (defArgs s_pool) (defBody s_pool) (defScope s_pool) .none kV11 dc11 pm11 an11 cd11 ct11, f_keeper := f12, d_keeper := PySem.W.fnOf "_law_keeper" "_law_keeper" (defArgs s_keeper) (defBody s_keeper) (defScope s_keeper) .none kV12 dc12 pm12 an12 cd12 ct12, f_board := f13, d_board := PySem.W.fnOf "_law_board" "_law_board" (defArgs s_board) (defBody s_board) (defScope s_board) .none kV13 dc13 pm13 an13 cd13 ct13, f_bent := f14, d_bent := PySem.W.fnOf "_law_bent" "_law_bent" (defArgs s_bent) (defBody s_bent) (defScope s_bent) .none kV14 dc14 pm14 an14 cd14 ct14, f_place := f15, d_place := PySem.W.fnOf "_law_place" "_law_place" (defArgs s_place) (defBody s_place) (defScope s_place) .none kV15 dc15 pm15 an15 cd15 ct15, f_mended := f16, d_mended := PySem.W.fnOf "_law_mended" "_law_mended" (defArgs s_mended) (defBody s_mended) (defScope s_mended) .none kV16 dc16 pm16 an16 cd16 ct16, f_right := f17, d_right := PySem.W.fnOf "_law_right" "_law_right" (defArgs s_right) (defBody s_right) (defScope s_right) .none kV17 dc17 pm17 an17 cd17 ct17 }
  have T : Txt K mg A :=
    { F_is_number := F0, g_is_number := PySem.W.mg_of X G a0, b_is_number := F0.binds (ps := P_is_number) fun _ _ _ _ _ _ us hl => match us, hl with | [_], _ => rfl, F_is_name := F1, g_is_name := PySem.W.mg_of X G a1, b_is_name := F1.binds (ps := P_is_name) fun _ _ _ _ _ _ us hl => match us, hl with | [_], _ => rfl, F_is_room := F2, g_is_room := PySem.W.mg_of X G a2, b_is_room := F2.binds (ps := P_is_room) fun _ _ _ _ _ _ us hl => match us, hl with | [_], _ => rfl, F_is_row := F3, g_is_row := PySem.W.mg_of X G a3, b_is_row := F3.binds (ps := P_is_row) fun _ _ _ _ _ _ us hl => match us, hl with | [_, _], _ => rfl, F_is_keeper := F4, g_is_keeper := PySem.W.mg_of X G a4, b_is_keeper := F4.binds (ps := P_is_keeper) fun _ _ _ _ _ _ us hl => match us, hl with | [_], _ => rfl, F_is_team := F5, g_is_team := PySem.W.mg_of X G a5, b_is_team := F5.binds (ps := P_is_team) fun _ _ _ _ _ _ us hl => match us, hl with | [_], _ => rfl, F_fault := F6, g_fault := PySem.W.mg_of X G a6, b_fault := F6.binds (ps := P_fault) fun _ _ _ _ _ _ us hl => match us, hl with | [_], _ => rfl, F_keepers_of := F7, g_keepers_of := PySem.W.mg_of X G a7, b_keepers_of := F7.binds (ps := P_keepers_of) fun _ _ _ _ _ _ us hl => match us, hl with | [_], _ => rfl, F_names := F8, g_names := PySem.W.mg_of X G a8, b_names := F8.binds (ps := P_names) fun _ _ _ _ _ _ us hl => match us, hl with | [_], _ => rfl, F_bag := F9, g_bag := PySem.W.mg_of X G a9, b_bag := F9.binds (ps := P_bag) fun _ _ _ _ _ _ us hl => match us, hl with | [_], _ => rfl, F_draw := F10, g_draw := PySem.W.mg_of X G a10, b_draw := F10.binds (ps := P_draw) fun _ _ _ _ _ _ us hl => match us, hl with | [_, _], _ => rfl, F_pool := F11, g_pool := PySem.W.mg_of X G a11, b_pool := F11.binds (ps := P_pool) fun _ _ _ _ _ _ us hl => match us, hl with | [_, _], _ => rfl, F_keeper := F12, g_keeper := PySem.W.mg_of X G a12, b_keeper := F12.binds (ps := P_keeper) fun _ _ _ _ _ _ us hl => match us, hl with | [_, _, _], _ => rfl, F_board := F13, g_board := PySem.W.mg_of X G a13, b_board := F13.binds (ps := P_board) fun _ _ _ _ _ _ us hl => match us, hl with | [_], _ => rfl, F_bent := F14, g_bent := PySem.W.mg_of X G a14, b_bent := F14.binds (ps := P_bent) fun _ _ _ _ _ _ us hl => match us, hl with | [_, _], _ => rfl, F_place := F15, g_place := PySem.W.mg_of X G a15, b_place := F15.binds (ps := P_place) fun _ _ _ _ _ _ us hl => match us, hl with | [_], _ => rfl, F_mended := F16, g_mended := PySem.W.mg_of X G a16, b_mended := F16.binds (ps := P_mended) fun _ _ _ _ _ _ us hl => match us, hl with | [_, _, _], _ => rfl, F_right := F17, g_right := PySem.W.mg_of X G a17, b_right := F17.binds (ps := P_right) fun _ _ _ _ _ _ us hl => match us, hl with | [_], _ => rfl, n_abs := PySem.W.mg_none_of X G n_abs, n_all := PySem.W.mg_none_of X G n_all, n_bool := PySem.W.mg_none_of X G n_bool, n_enumerate := PySem.W.mg_none_of X G n_enumerate, n_int := PySem.W.mg_none_of X G n_int, n_isinstance := PySem.W.mg_none_of X G n_isinstance, n_len := PySem.W.mg_none_of X G n_len, n_list := PySem.W.mg_none_of X G n_list, n_range := PySem.W.mg_none_of X G n_range, n_set := PySem.W.mg_none_of X G n_set, n_sorted := PySem.W.mg_none_of X G n_sorted, n_str := PySem.W.mg_none_of X G n_str, n_sum := PySem.W.mg_none_of X G n_sum, n_tuple := PySem.W.mg_none_of X G n_tuple, g_LETTERS := ⟨_, PySem.W.mg_of X G v_LETTERS⟩, g_MOST_LETTERS := ⟨_, PySem.W.mg_of X G v_MOST_LETTERS⟩, g_MOST_ROOM := ⟨_, PySem.W.mg_of X G v_MOST_ROOM⟩ }
  let C : Cd := { kn := kn, pn := pn, kr := kr, pr := pr }
  subst te_is_name te_is_row
  refine ⟨PySem.W.fnOf "law" "law" (defArgs s_law) (defBody s_law) (defScope s_law) .none kV18 dc18 pm18 an18 cd18 ct18, [(kn, pn), (kr, pr)], spLaw K C, ?_, fun s v => .of_eq rfl, ?_, ?_⟩
  · intro t ht
    simp only [List.mem_cons, List.not_mem_nil, or_false] at ht
    rcases ht with e | e <;> rw [e]
    · exact ⟨ts _ _ _ rt_is_name ti_is_name, tz_is_name⟩
    · exact ⟨ts _ _ _ rt_is_row ti_is_row, tz_is_row⟩
  · intro H a ns hl tg sq
    refine ⟨a, ns, rfl, sq, hl, fun p hp => ?_, fun _ => rfl⟩
    simp only [Cd.tabs, List.mem_cons, List.not_mem_nil, or_false] at hp
    rcases hp with e | e <;> rw [e]
    · exact tg (kn, pn) (by simp)
    · exact tg (kr, pr) (by simp)
  · intro base _ _ tb
    have tb_is_name := tb (kn, pn) (by simp)
    have tb_is_row := tb (kr, pr) (by simp)
    exact ok_law F18 T { is_name := tb_is_name, c_is_name := rfl, is_row := tb_is_row, c_is_row := rfl }
theorem walk {l : PySem.W.OpenLaw} {q : Program} {loose : List Str} {XP : (Str → Option Value) → Heap → Prop} {YP : World → Heap → Prop} {d : DefRec} {K : Params → PySem.W.Frag} (hn : l.most = some 63) (hdf : d.params.defaults = [])
    (hY : ∀ (w : World) (h : Heap), YP w h → (K w.params).In h)
    (F : ∀ (w : World) (mg : Str → Option Value) (fa : Addr) (h : Heap), (K w.params).In h → h.Ns mainGlobals mg → mg d.name = some (.ref fa) → TabsOf q (K w.params) h → LawGT l w (K w.params) CX0 9 63 "script" mg fa h) :
    PySem.W.WalkO q loose XP YP l.row.toRowW d [] (fun f vs => PySem.call f vs) :=
  walk_ofGT (n := 63) (k := 9) (x := "script") (CX := fun _ => CX0) hn (by decide) hdf ⟨rfl, by decide, by decide⟩ hY F fun _ _ _ _ _ z => z
end My
open PySem PySem.W PyProof.Rows
set_option maxRecDepth 100000 in
set_option maxHeartbeats 0 in
theorem PySem.Challenge.cw_dimkeepers_k06_whole_mended_one_by_one_holds : PySem.Challenge.rw_dimkeepers_k06_whole_mended_one_by_one.Holds := by
  w_on; o_law; k_head; (case hw => w_witness2)
  k_fill
  refine My.walk (l := PySem.Challenge.rw_dimkeepers_k06_whole_mended_one_by_one) rfl rfl (fun w h Y => PySem.W.kIn_of Y) ?F
  case F =>
    intro w mg fa h KX G hmg ts
    refine' My.all_mk KX G hmg ?a0 ?l0 ?c0 ?k0 ?a1 ?l1 ?c1 ?k1 ?a2 ?l2 ?c2 ?k2 ?a3 ?l3 ?c3 ?k3 ?a4 ?l4 ?c4 ?k4 ?a5 ?l5 ?c5 ?k5 ?a6 ?l6 ?c6 ?k6 ?a7 ?l7 ?c7 ?k7 ?a8 ?l8 ?c8 ?k8 ?a9 ?l9 ?c9 ?k9 ?a10 ?l10 ?c10 ?k10 ?a11 ?l11 ?c11 ?k11 ?a12 ?l12 ?c12 ?k12 ?a13 ?l13 ?c13 ?k13 ?a14 ?l14 ?c14 ?k14 ?a15 ?l15 ?c15 ?k15 ?a16 ?l16 ?c16 ?k16 ?a17 ?l17 ?c17 ?k17 ?a18 ?l18 ?c18 ?k18 ?v_LETTERS ?v_MOST_LETTERS ?v_MOST_ROOM ?n_abs ?n_all ?n_bool ?n_enumerate ?n_int ?n_isinstance ?n_len ?n_list ?n_range ?n_set ?n_sorted ?n_str ?n_sum ?n_tuple ts ?rt_is_name ?ti_is_name ?tz_is_name ?te_is_name ?rt_is_row ?ti_is_row ?tz_is_row ?te_is_row
    (case a0 => k_is)
    (case l0 => k_is)
    (case c0 => k_is)
    (case k0 => k_is)
    (case a1 => k_is)
    (case l1 => k_is)
    (case c1 => k_is)
    (case k1 => k_is)
    (case a2 => k_is)
    (case l2 => k_is)
    (case c2 => k_is)
    (case k2 => k_is)
    (case a3 => k_is)
    (case l3 => k_is)
    (case c3 => k_is)
    (case k3 => k_is)
    (case a4 => k_is)
    (case l4 => k_is)
    (case c4 => k_is)
    (case k4 => k_is)
    (case a5 => k_is)
    (case l5 => k_is)
    (case c5 => k_is)
    (case k5 => k_is)
    (case a6 => k_is)
    (case l6 => k_is)
    (case c6 => k_is)
    (case k6 => k_is)
    (case a7 => k_is)
    (case l7 => k_is)
    (case c7 => k_is)
    (case k7 => k_is)
    (case a8 => k_is)
    (case l8 => k_is)
    (case c8 => k_is)
    (case k8 => k_is)
    (case a9 => k_is)
    (case l9 => k_is)
    (case c9 => k_is)
    (case k9 => k_is)
    (case a10 => k_is)
    (case l10 => k_is)
    (case c10 => k_is)
    (case k10 => k_is)
    (case a11 => k_is)
    (case l11 => k_is)
    (case c11 => k_is)
    (case k11 => k_is)
    (case a12 => k_is)
    (case l12 => k_is)
    (case c12 => k_is)
    (case k12 => k_is)
    (case a13 => k_is)
    (case l13 => k_is)
    (case c13 => k_is)
    (case k13 => k_is)
    (case a14 => k_is)
    (case l14 => k_is)
    (case c14 => k_is)
    (case k14 => k_is)
    (case a15 => k_is)
    (case l15 => k_is)
    (case c15 => k_is)
    (case k15 => k_is)
    (case a16 => k_is)
    (case l16 => k_is)
    (case c16 => k_is)
    (case k16 => k_is)
    (case a17 => k_is)
    (case l17 => k_is)
    (case c17 => k_is)
    (case k17 => k_is)
    (case a18 => k_is)
    (case l18 => k_is)
    (case c18 => k_is)
    (case k18 => k_is)
    (case v_LETTERS => k_is)
    (case v_MOST_LETTERS => k_is)
    (case v_MOST_ROOM => k_is)
    (case n_abs => k_is)
    (case n_all => k_is)
    (case n_bool => k_is)
    (case n_enumerate => k_is)
    (case n_int => k_is)
    (case n_isinstance => k_is)
    (case n_len => k_is)
    (case n_list => k_is)
    (case n_range => k_is)
    (case n_set => k_is)
    (case n_sorted => k_is)
    (case n_str => k_is)
    (case n_sum => k_is)
    (case n_tuple => k_is)
    (case rt_is_name => decide +kernel)
    (case ti_is_name => first | rfl | k_is)
    (case tz_is_name => first | rfl | k_is)
    (case te_is_name => rfl)
    (case rt_is_row => decide +kernel)
    (case ti_is_row => first | rfl | k_is)
    (case tz_is_row => first | rfl | k_is)
    (case te_is_row => rfl)
