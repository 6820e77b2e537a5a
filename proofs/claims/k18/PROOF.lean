import PyProof.Rows.All
import Wide.All
import OpenK.AllK
import Wide.FinOn
import HandS.Base
import HandS.Call
import HandS.List
import HandS.Comp
import HandS.Ends
import HandS.Iter
import HandS.Words
import HandS.WordsList
import HandS.Wide
import HandS.Conv
import PyProof.ReprRoads
import KE.GoesEnumKw
import HandS.IsInst
import HandS.Zip
import HandS.SortInts
import HandS.RaiseMore
import KE.DataEq
import HandS.Evl
import HandS.Style
import PyProof.Rows.SeqMore
import PySem.Challenge.RW_backafter_k18_whole_rows_of_shuffles
set_option Elab.async false
set_option linter.all false
set_option maxRecDepth 100000
set_option maxHeartbeats 4000000
namespace Bk
open PySem PySem.Spec PyProof.Rows L2

/-! ### room, and nothing of repr on the stack -/
structure Rm (k : Nat) (A : Around) : Prop where
  rm : Room k A
  gd : A.guards = some []
theorem Rm.mono {j k : Nat} {A : Around} (r : Rm k A) (h : j ≤ k) : Rm j A := ⟨r.rm.mono h, r.gd⟩
theorem Rm.deep {k : Nat} {A : Around} (r : Rm (k + 1) A) (env : Env) : Rm k (A.deeper env) := ⟨r.rm.deeper env, r.gd⟩

/-- a def's promise where the stack holds no repr -/
structure FnG (P : Program) (w : World) (K : PySem.W.Frag) (mg : Str → Option Value) (base : Heap) (CX : CXT) (k : Nat) (f : Addr) (fd : FuncData) (ps : List Str) (sp : Sp) : Prop where
  len : ∀ vs H Q E, sp vs H Q E → vs.length = ps.length
  run : ∀ (A : Around) (out : List Env) (s : Shared) (H : Hp) (args : Args) (us : List Value) (vs : List V) (Q : VK) (E : XK), Rm k A →
    Env0 P w K mg base A out s H → BindsTo s fd args (ps.zip us) → Vals vs us → sp vs H Q E → codeAny (model P w) A (.call (.ref f) args) (CR CX out P w H s Q E) s

section
variable {P : Program} {w : World} {K : PySem.W.Frag} {mg : Str → Option Value} {base : Heap} {CX : CXT} {k : Nat} {f : Addr} {fd : FuncData} {ps : List Str} {sp : Sp}
theorem FnG.mono {j : Nat} (F : FnG P w K mg base CX j f fd ps sp) (h : j ≤ k) : FnG P w K mg base CX k f fd ps sp :=
  ⟨F.len, fun A o s H a us vs Q E r => F.run A o s H a us vs Q E (r.mono h)⟩
theorem FnG.imp {sp' : Sp} (F : FnG P w K mg base CX k f fd ps sp) (h : ∀ vs H Q E, sp' vs H Q E → sp vs H Q E) : FnG P w K mg base CX k f fd ps sp' :=
  ⟨fun vs H Q E q => F.len vs H Q E (h _ _ _ _ q), fun A o s H a us vs Q E r e b v q => F.run A o s H a us vs Q E r e b v (h _ _ _ _ q)⟩

/-- the body, for any wish about exceptions -/
theorem bodyG {x qual : Str} {st : Stmt} {N : List Str} (F : Fun K x qual st f fd) (S : FnScope N ps (defScope st)) (len : ∀ vs H Q E, sp vs H Q E → vs.length = ps.length)
    (hb : ∀ (cdv : Value) (A : Around) (out : List Env) (s : Shared) (H : Hp) (vs : List V) (Q : VK) (E : XK),
      Rm k (A.deeper (envOfC qual (defScope st) s.heap.objs.size f cdv)) → sp vs H Q E →
      ∃ t, PSs (cxOf CX P w K mg base N qual (defScope st) f cdv A out s H E) (defBody st) t ∧ t { nx := fun _ H' => Q .non H', rt := Q } (start N vs) H) :
    FnG P w K mg base CX (k + 1) f fd ps sp := by
  obtain ⟨oc, od, kV, doc, pm, an, cdv, ct, osl, rfl, lk, hcd⟩ := F.ex
  refine ⟨len, ?_⟩
  intro A out s H args us vs Q E room e0 hbd rv hsp
  have hlen := len _ _ _ _ hsp
  have inK : K.In s.heap := e0.mod.kin.keeps fun b o e => (e0.bs b o e).1
  have noL : s.heap.NoLimit := e0.mod.nolimit.keeps fun b o e => (e0.bs b o e).1
  have kinds : ∀ y ∈ ps.zip us, (defScope st).names.lookup y.1 = some .local ∨
      ((defScope st).names.lookup y.1 = some .cell ∧ ((cellsFrom (s.heap.objs.size + 1) (defScope st).names []).lookup y.1).isSome = true) := by
    intro ⟨n, v⟩ hy
    rcases S.par n (List.of_mem_zip hy).1 with q | q
    · left
      exact q
    · right
      exact ⟨q, PySem.W.cellsFrom_some _ _ _ (.inl q)⟩
  refine codeAny_call_function room.rm.depth (inK _ _ lk) rfl S.co S.gen rfl (PySem.W.codeRec_of inK hcd) (hbd _ _ _ _ ?_)
  refine wpAny_newFunctionEnv_cells S.kind kinds ?_
  intro env henv s1 x
  subst henv
  refine ⟨noL.keeps x.toInCall.keep, codeAny_func ?_⟩
  obtain ⟨t, ht, hq⟩ := hb cdv A out s H vs Q E (room.deep _) hsp
  have J0 := inv_start (CX := CX) (E := E) (f := f) (cd := cdv) S room.rm.hd e0 hlen rv x
  refine wpAny_mono (ht.run [] s1 (start N vs) H _ J0 hq) ?_ (fun _ _ hs => hs)
  intro fl s' hs
  cases fl with
  | next =>
    obtain ⟨σ', H', J, q⟩ := hs
    exact ⟨V.non, H', J.os, J.bare, J.base, J.hok, rfl, q⟩
  | ret u =>
    obtain ⟨v, σ', H', J, rr, q⟩ := hs
    exact ⟨v, H', J.os, J.bare, J.base, J.hok, rr, q⟩
  | cont =>
    obtain ⟨_, _, _, q⟩ := hs
    exact q.elim
  | brk =>
    obtain ⟨_, _, _, q⟩ := hs
    exact q.elim
/-- a def that lets no exception out -/
theorem okG {x qual : Str} {st : Stmt} {N : List Str} (F : Fun K x qual st f fd) (S : FnScope N ps (defScope st)) (len : ∀ vs H Q E, sp vs H Q E → vs.length = ps.length)
    (hb : ∀ (cdv : Value) (A : Around) (out : List Env) (s : Shared) (H : Hp) (vs : List V) (Q : VK) (E : XK),
      Rm k (A.deeper (envOfC qual (defScope st) s.heap.objs.size f cdv)) → sp vs H Q E →
      ∃ t, PSs (cxOf CX0 P w K mg base N qual (defScope st) f cdv A out s H E).nox (defBody st) t ∧ t { nx := fun _ H' => Q .non H', rt := Q } (start N vs) H) :
    FnG P w K mg base CX0 (k + 1) f fd ps sp :=
  bodyG F S len fun cdv A out s H vs Q E r q =>
    let ⟨t, h, z⟩ := hb cdv A out s H vs Q E r q
    ⟨t, h.nox, z⟩
end

/-! ### calls of such defs -/
section
variable {X : Cx} {CX : CXT} {k : Nat} {f : Addr} {fd : FuncData} {ps ks : List Str} {sp : Sp} {dvs : List V} {ds : List Value} {E : XK} {x : Str} {p pos : Pos} {e : Expr} {es : List Expr} {t tk : TA} {kws : List Keyword}
theorem endG {pins : List (Addr × Obj)} {σ : L2.St} {H : Hp} {s : Shared} {Q : VK} (I : Inv X pins σ H s) (hx : Passes CX X E) (r : Result) (s' : Shared) (h : CR CX X.stack X.prog X.w H s Q E r s') :
    (match r with | .ok (.ret u) => EP X pins σ Q u s' | .ok _ => False | .error e => X.xe e s') := by
  cases r with
  | error e => exact hx pins σ H s e s' I h
  | ok fl =>
    cases fl with
    | ret u => exact I.after h
    | _ => exact h
theorem runG {pins : List (Addr × Obj)} {σ : L2.St} {H : Hp} {s : Shared} {Q : VK} {us : List Value} {vs : List V} (F : FnG X.prog X.w X.K X.mg X.base CX k f fd ps sp) (hr : Rm k X.A) (hb : Binds X.K fd ps ds) (hd : Vals dvs ds)
    (hx : Passes CX X E) (I : Inv X pins σ H s) (r : Vals vs us) (h : sp (vs ++ dvs) H Q E) : wpAny (model X.prog X.w) X.A (call (.ref f) us) (EP X pins σ Q) X.xe s := by
  have rv := r.append hd
  have hl : (us ++ ds).length = ps.length := rv.length.symm.trans (F.len _ _ _ _ h)
  refine wpAny_call (codeAny_mono (F.run X.A X.stack s H ⟨us, []⟩ (us ++ ds) (vs ++ dvs) Q E hr I.env0 (hb s us I.kIn hl) rv h) fun r s' hq => ?_)
  have z := endG I hx r s' hq
  cases r with
  | error e => exact z
  | ok fl =>
    cases fl with
    | ret u => exact z
    | _ => exact z.elim
theorem callG (F : FnG X.prog X.w X.K X.mg X.base CX k f fd ps sp) (hr : Rm k X.A) (hg : Gl X x) (hm : X.mg x = some (.ref f)) (hk : PySem.W.keepIn X.K (.ref f) = true) (hb : Binds X.K fd ps ds) (hd : Vals dvs ds) (hx : Passes CX X E)
    (ha : PA X (e :: es) t) (hdb : (x == ("__debug__" : Str)) = false := by decide) (he : starEach (e :: es) X.env = (false, eval e X.env) :: starEach es X.env := by rfl)
    (hpl : (backTo pos (starEach es X.env)).any (·.1) = false := by rfl) : PE X (.Call (.Name x p) (e :: es) [] pos) (tCall sp dvs E t) := by
  refine ⟨fun pins s σ H Q I h => wpAny_Call_Name_kw (ld_glob I hg hm ?_ hdb)⟩
  refine PySem.W.callWith_K (h₀ := X.base) I.ok.mod.kin hk (thn (ha.run pos pins s σ H _ I h) ?_) he hpl
  intro us s1 ⟨vs, H1, I1, r, q⟩
  exact ⟨I1.kIn, runG F hr hb hd hx I1 r q⟩
theorem runGK {pins : List (Addr × Obj)} {σ : L2.St} {H : Hp} {s : Shared} {Q : VK} {us ws : List Value} {vs zs : List V} {g : List Value → List Value → List Value} {gV : List V → List V → List V}
    (F : FnG X.prog X.w X.K X.mg X.base CX k f fd ps sp) (hr : Rm k X.A) (hb : KBinds X.K fd ps ks g gV) (hx : Passes CX X E)
    (I : Inv X pins σ H s) (r : Vals vs us) (rz : Vals zs ws) (h : sp (gV vs zs) H Q E) : wpAny (model X.prog X.w) X.A (call (.ref f) us (ks.zip ws)) (EP X pins σ Q) X.xe s := by
  have rv := hb.rel r rz
  have hl : (g us ws).length = ps.length := rv.length.symm.trans (F.len _ _ _ _ h)
  refine wpAny_call (codeAny_mono (F.run X.A X.stack s H ⟨us, ks.zip ws⟩ (g us ws) (gV vs zs) Q E hr I.env0 (hb.to s us ws I.kIn hl) rv h) fun r s' hq => ?_)
  have z := endG I hx r s' hq
  cases r with
  | error e => exact z
  | ok fl =>
    cases fl with
    | ret u => exact z
    | _ => exact z.elim
end

/-! ### the end of a law -/
/-- the law's def, at the heap behind the top -/
theorem lawG {P : Program} {w : World} {K : PySem.W.Frag} {mg mb : Str → Option Value} {CX : CXT} {k : Nat} {fa a : Addr} {fd : FuncData} {x : Str} {sp : Sp} {s₁ : Shared} {vs : List Value} {ns : List Int}
    (inK : K.In s₁.heap) (hns : s₁.heap.Ns mainGlobals mg) (hb : s₁.heap.Ns builtinsNs mb) (hbb : ∀ x : Str, x ≠ "__name__" → mb x = bootBuiltins x) (hlim : s₁.heap.NoLimit) (hg : s₁.gens = #[])
    (ha : s₁.heap.get? a = some { cls := .type "list", data := .seq vs.toArray }) (hi : IntsAre vs ns) (hl : ns.length ≤ sizeLine) (hr : Rm k callerA)
    (F : ∀ base : Heap, K.In base → base.Ns mainGlobals mg → FnG P w K mg base CX k fa fd [x] sp) (hbind : ∀ (s : Shared) (u : Value), BindsTo s fd ⟨[u], []⟩ [(x, u)])
    (hsp : ∀ H : Hp, Only H → SqL K H a (ns.map V.int) → sp [.ref a] H (fun v _ => v = .bl true) fun _ _ _ => False)
    (hCX : ∀ H e s', CX [] H s₁ (fun _ _ _ => False) e s' → False) :
    codeAny (model P w) callerA (.call (.ref fa) ⟨[.ref a], []⟩) (fun r s' => r = .ok (.ret (.bool true)) ∧ OldK s₁.heap s'.heap ∧ s'.os = s₁.os ∧ AllBare s'.gens) s₁ := by
  have rv := vals_ints hi
  have go : ∀ H : Hp, Only H → SqL K H a (ns.map V.int) → HOk P w H s₁.heap → (∀ b, H b ≠ none → b = a) → (H a ≠ none → K.lookup a = none) →
      codeAny (model P w) callerA (.call (.ref fa) ⟨[.ref a], []⟩) (fun r s' => r = .ok (.ret (.bool true)) ∧ OldK s₁.heap s'.heap ∧ s'.os = s₁.os ∧ AllBare s'.gens) s₁ := by
    intro H hO hS hok only hK
    have nsd : ∀ {b : Addr} {o : Obj} {es : Array DictEntry} {ep : Nat}, s₁.heap.get? b = some o → o.data = .dict es ep → H b = none := by
      intro b o es ep e d
      cases q : H b with
      | none => rfl
      | some u =>
        obtain rfl : b = a := only b (by simp [q])
        rw [ha] at e
        cases e
        exact nomatch (show Data.seq vs.toArray _ = Data.dict es ep from d)
    have nsH : ∀ {b : Addr} {m : Str → Option Value}, s₁.heap.Ns b m → (hidT s₁.heap H).Ns b m := by
      intro b m ⟨o, es, ep, e, d, r⟩
      exact ⟨o, es, ep, hidT_get e (nsd e d), d, r⟩
    have inH : K.In (hidT s₁.heap H) := by
      intro b o e
      refine hidT_get (inK b o e) ?_
      cases q : H b with
      | none => rfl
      | some u =>
        obtain rfl : b = a := only b (by simp [q])
        rw [hK (by simp [q])] at e
        cases e
    have md : Mod K mg (hidT s₁.heap H) := ⟨inH, nsH hns, ⟨mb, nsH hb, hbb⟩, let ⟨mc, h1, h2⟩ := hlim; ⟨mc, nsH h1, h2⟩⟩
    have e0 : Env0 P w K mg (hidT s₁.heap H) callerA [] s₁ H :=
      ⟨rfl, md, fun b o e => of_hidT e, Nat.le_of_eq (hidT_size _ _), trivial, fun b hb => (List.not_mem_nil hb).elim, hok, .of_eq hg⟩
    refine codeAny_mono ((F _ inH (nsH hns)).run callerA [] s₁ H ⟨[.ref a], []⟩ [.ref a] [.ref a] _ _ hr e0 (hbind s₁ (.ref a)) (.cons rfl .nil) (hsp H hO hS)) ?_
    intro r s' h
    cases r with
    | error e => exact (hCX H e s' h).elim
    | ok fl =>
      cases fl with
      | ret u =>
        obtain ⟨v, H', os, bare, un, hok', r', q⟩ := h
        obtain rfl : v = .bl true := q
        obtain rfl : u = Value.bool true := r'
        refine ⟨rfl, OldK.of_keep ?_, os, bare⟩
        intro b o e
        cases q : H b with
        | none => exact un.keep b o e q (fun z => (List.not_mem_nil z).elim) (fun z => (List.not_mem_nil z).elim)
        | some u =>
          rcases hO b with z | ⟨ob, xs, z⟩
          · rw [q] at z
            cases z
          · obtain ⟨e1, _⟩ := hok b _ z
            obtain ⟨e2, _⟩ := hok' b _ (un.frzs b ob _ z)
            rw [e] at e1
            cases e1
            exact e2
      | _ => exact h.elim
  cases hk : K.lookup a with
  | some o =>
    have e := inK a o hk
    rw [ha] at e
    cases e
    refine go (fun _ => none) (fun _ => .inl rfl) (.inr ⟨_, vs.toArray, _, hk, rfl, rfl, rfl, ?_, by simpa using rv⟩) (fun b u z => nomatch z) (fun b z => (z rfl).elim) fun z => (z rfl).elim
    rw [List.size_toArray, hi.length]
    exact hl
  | none =>
    refine go (fun b => if b = a then some (.frz { cls := .type "list", data := .seq vs.toArray } (.lst (ns.map V.int))) else none) ?_ (.inl (.inr ⟨{ cls := .type "list", data := .seq vs.toArray }, if_pos rfl⟩)) ?_ ?_ fun _ => hk
    · intro b
      by_cases c : b = a
      · exact .inr ⟨_, _, if_pos c⟩
      · exact .inl (if_neg c)
    · intro b u z
      dsimp only at z
      by_cases c : b = a
      · rw [if_pos c] at z
        cases z
        subst c
        refine ⟨ha, ?_, vs, _, rv, ha⟩
        rw [List.length_map]
        exact hl
      · rw [if_neg c] at z
        cases z
    · intro b z
      by_cases c : b = a
      · exact c
      · exact (z (if_neg c)).elim

theorem walkG {l : PySem.W.OpenLaw} {n k : Nat} {q : Program} {loose : List Str} {XP : (Str → Option Value) → Heap → Prop} {YP : World → Heap → Prop} {d : DefRec} {K : Params → PySem.W.Frag} {CX : World → CXT} {sp : World → Sp} {x : Str}
    (hn : l.most = some n) (hn2 : n ≤ sizeLine) (hdf : d.params.defaults = []) (hr : Rm k callerA)
    (hY : ∀ (w : World) (h : Heap), YP w h → (K w.params).In h)
    (F : ∀ (w : World) (mg : Str → Option Value) (fa : Addr) (h : Heap), (K w.params).In h → h.Ns mainGlobals mg → mg d.name = some (.ref fa) →
      ∃ fd : FuncData, (∀ (s : Shared) (u : Value), BindsTo s fd ⟨[u], []⟩ [(x, u)]) ∧
        ∀ base : Heap, (K w.params).In base → base.Ns mainGlobals mg → FnG l.prog w (K w.params) mg base (CX w) k fa fd [x] (sp w))
    (hsp : ∀ (w : World) (H : Hp) (a : Addr) (ns : List Int), ns.length ≤ n → Only H → SqL (K w.params) H a (ns.map V.int) → sp w [.ref a] H (fun v _ => v = .bl true) fun _ _ _ => False)
    (hCX : ∀ (w : World) (H : Hp) (s : Shared) (e : Value) (s' : Shared), CX w [] H s (fun _ _ _ => False) e s' → False) :
    PySem.W.WalkO q loose XP YP l.row.toRowW d [] (fun f vs => PySem.call f vs) := by
  refine Att.attach_call hn hdf ?_
  intro w s₀ s₁ mg mb fa o pm cd doc a vs ns G Y ho hd hcd hmg hobj hints hlen hg
  have inK := hY w _ Y
  obtain ⟨fd, hb, hF⟩ := F w mg fa _ inK G.T.g hmg
  exact lawG inK G.T.g G.T.b G.T.builtins G.T.nolimit hg hobj hints (Nat.le_trans hlen hn2) hr hF hb (fun H hO hS => hsp w H a ns hlen hO hS) fun H e s' => hCX w H s₁ e s'

/-! ### repr of data -/
def rRepr (K : PySem.W.Frag) : List V → Hp → VK → Prop := fun xs H Q => ∃ (a : Addr) (d : PyData), xs = [.ref a] ∧ Dp K H (.ref a) d ∧ d.showable = true ∧ d.hasDict = false ∧ d.depth ≤ 60 ∧ d.shown.length ≤ sizeLine ∧ Q (.str d.shown) H
theorem call_repr {X : Cx} (hg : X.A.guards = some []) (hu : X.A.units + 64 < cLine) : CallR X (.builtin "repr") (rRepr X.K) := by
  intro pins s σ H xs us Q I r h
  obtain ⟨a, d, rfl, hd, hs, hn, hp, hz, q⟩ := h
  obtain ⟨u, rfl, ru⟩ := vals1 r
  cases (show u = Value.ref a from ru)
  obtain ⟨as, rd⟩ := Dp.reads I d (.ref a) (.ref a) hd rfl
  refine repr_of_reads' rd hs (fun z => by rw [hn] at z; cases z) hg (by omega) (fun _ _ e => e) (fun h' u tk hk => ?_) hz
  exact ⟨.str d.shown, H, I.kept hk, ⟨u, rfl⟩, q⟩
end Bk
namespace Bk
open PySem PySem.Spec PyProof.Rows L2

/-! ### enumerate(list, start=k) -/
theorem callWith_clsKw {M : Model} {A : Around} {E : Value → Shared → Prop} {s : Shared} {env : Env} {pos : Pos} {T : String} {e : Expr} {rest : List Expr} {kws : List Keyword} {Q : Value → Shared → Prop}
    (h : wpAny M A (spliced (backTo pos (starEach (e :: rest) env))) (fun vs s₁ => wpAny M A (evalAll ((backToKw pos (keywordEach kws env)).map (·.2)))
      (fun ks s₂ => wpAny M A (call (.type T) vs (((backToKw pos (keywordEach kws env)).filterMap (·.1)).zip ks)) Q E s₂) E s₁) E s)
    (hall : (backToKw pos (keywordEach kws env)).all (·.1.isSome) = true)
    (hplain : (backTo pos (starEach (e :: rest) env)).any (·.1) = false) (hkw : (backToKw pos (keywordEach kws env)).any (·.1.isNone) = false)
    (he : backTo pos (starEach (e :: rest) env) = (false, eval e env) :: backTo pos (starEach rest env)) :
    wpAny M A (callWith pos (.type T) [] (backTo pos (starEach (e :: rest) env)) (backToKw pos (keywordEach kws env))) Q E s := by
  have h2 : wpAny M A (evalArgs (.type T) true (backTo pos (starEach (e :: rest) env)) (backToKw pos (keywordEach kws env))) (fun a s₁ => wpAny M A (call (.type T) ([] ++ a.pos) a.kw) Q E s₁) E s := by
    rw [he] at h ⊢
    exact PyProof.Rows.evalArgs_kwB hall h
  unfold callWith
  refine wpAny_bind (wpAny_holding (wpAny_mono h2 (fun a s₁ h₁ => wpAny_bind (wpAny_standAt ?_)) fun _ _ x => x))
  simp only [hplain, hkw, Bool.or_false]
  refine wpAny_bind (wpAny_pure ?_)
  exact wpAny_bind (wpAny_mono h₁ (fun r s₂ hr => wpAny_bind (wpAny_holding (wpAny_point (wpAny_pure hr)))) fun _ _ x => x)

/-- the list at a, each item in a new pair, counted from c -/
def Itn (K : PySem.W.Frag) (a : Addr) (c : Int) : It :=
  ⟨fun i H => ∃ (xs : List V) (x : V), SqL K H a xs ∧ xs[i]? = some x,
   fun i H v H' => ∃ T x, v = .ref T ∧ H T = none ∧ H' = upd H T (.tup [.int (c + (i : Nat)), x]) ∧ ∀ xs, SqL K H a xs → xs[i]? = some x,
   fun i H => ∃ xs : List V, SqL K H a xs ∧ i = xs.length⟩

theorem turn_enumC {P : Program} {w : World} {K : PySem.W.Frag} {elts : List Expr} {kk : Nat} {tpos : Pos} (a e it : Addr) (c : Int) :
    Turn P w K (.Tuple elts kk tpos) (Itn K a c) [e, it] e (fun i h => (∃ old, IsEnum h e it (c + ((i : Nat) : Int)) old) ∧ h.IsListIter it a i ∧ e ≠ it) where
  mem := List.mem_cons_self
  obj := by
    intro i h st b hb
    obtain ⟨⟨old, he⟩, ⟨o, ho, hc, hd⟩, _⟩ := st
    rcases (show b = e ∨ b = it by simpa using hb) with z | z
    · rw [z]
      exact ⟨_, he, fun v q => nomatch q⟩
    · rw [z]
      exact ⟨o, ho, fun v q => by rw [hd] at q; cases q⟩
  keep := by
    intro i h h' st k
    obtain ⟨⟨old, he⟩, hi, hne⟩ := st
    exact ⟨⟨old, k e (by simp) _ he⟩, hi.at fun o q => k it (by simp) o q, hne⟩
  item := by
    intro X hP hw hK hc i pins s σ H E I hf st hg
    subst hP hw hK
    obtain ⟨⟨old, he⟩, hit, hne⟩ := st
    obtain ⟨xs, x, hq, hx⟩ := hg
    obtain ⟨its, rv, p, hz⟩ := I.list hq
    obtain ⟨u, hu, ru⟩ := rv.get hx
    have hel : e < s.heap.objs.size := Heap.lt_size he
    have hil : it < s.heap.objs.size := by
      obtain ⟨_, q, _⟩ := hit
      exact Heap.lt_size q
    have hai : a ≠ it := by
      intro z
      obtain ⟨o1, q1, c1, d1⟩ := hit
      obtain ⟨o2, n2, q2, c2, _⟩ := p
      rw [z, q1] at q2
      cases q2
      rw [c1] at c2
      exact absurd c2 (by decide)
    have hae : e ≠ a := by
      intro z
      obtain ⟨o2, n2, q2, c2, _⟩ := p
      have q3 : s.heap.get? a = _ := z ▸ he
      rw [q3] at q2
      cases q2
      exact absurd (show Value.type "enumerate" = Value.type "list" from c2) (by decide)
    have hi : i < its.toArray.size := by
      have := (List.getElem?_eq_some_iff.mp hu).1
      simpa using this
    refine wpAny_pyNext_enum_itemC (Draws.list (by show X.A.handled = none; exact I.ok.hd hc) it a hai its.toArray) he ⟨hit, p.isList⟩ hi hne (by simp [hne, hae]) ?_
    intro y h' tk hy ho st' hT hsz hk
    have ey : y = u := by
      have : its.toArray[i]? = some u := by simpa using hu
      rw [this] at hy
      exact (Option.some.inj hy).symm
    subst ey
    refine ⟨_, rfl, wpAny_letOwnedTupleGo_enum (s := { s with heap := h', toks := tk + 1 }) ho ?_⟩
    intro h'' he' sb
    have hT2 : h''.get? s.heap.objs.size = some { cls := .type "tuple", data := .seq #[.int (c + (i : Nat)) tk, y] } := (sb.2 _ (Nat.ne_of_gt hel)).trans hT
    have new : ObjOk X.prog X.w (upd H s.heap.objs.size (.tup [.int (c + (i : Nat)), x])) h'' s.heap.objs.size (.tup [.int (c + (i : Nat)), x]) :=
      ⟨by show 2 ≤ sizeLine; decide, [.int (c + (i : Nat)) tk, y], .cons ⟨_, rfl⟩ (.cons ru .nil), ⟨_, hT2, rfl, _, rfl⟩⟩
    have I1 : Inv X pins σ (upd H s.heap.objs.size (.tup [.int (c + (i : Nat)), x])) { s with heap := h'', toks := tk + 1 } := by
      refine I.turnedNew (ch := [e, it]) ?_ hf (Nat.le_refl _) new
      intro b ob hb q
      exact (sb.2 b (fun z => hb (by simp [z]))).trans (hk b ob (fun z => hb (by simp [z])) (fun z => hb (by simp [z])) q)
    refine ⟨.ref s.heap.objs.size, _, I1, rfl, ⟨_, x, rfl, I.hok.fresh (Nat.le_refl _), rfl, fun ys hy => ?_⟩, ⟨⟨y, ?_⟩, st'.1.at fun o q => (sb.2 it (Ne.symm hne)).trans q, hne⟩, fun b hb => ?_⟩
    · rw [I.list_inj hy hq]
      exact hx
    · have e1 : c + ((i + 1 : Nat) : Int) = c + (i : Int) + 1 := by omega
      rw [e1]
      exact he'
    · have hb' : b < s.heap.objs.size := by
        rcases (show b = e ∨ b = it by simpa using hb) with z | z
        · exact z ▸ hel
        · exact z ▸ hil
      rw [upd_ne (Nat.ne_of_lt hb')]
      exact (hf b hb).1
  done := by
    intro X hP hw hK hc i pins s σ H E I hf st hg
    subst hP hw hK
    obtain ⟨⟨old, he⟩, hit, hne⟩ := st
    obtain ⟨xs, hq, hx⟩ := hg
    obtain ⟨its, rv, p, hz⟩ := I.list hq
    obtain ⟨f0, f1, f2, f3, f4, f5⟩ := hf it (by simp)
    have hl := rv.length
    have hai : a ≠ it := by
      intro z
      obtain ⟨o1, q1, c1, d1⟩ := hit
      obtain ⟨o2, n2, q2, c2, _⟩ := p
      rw [z, q1] at q2
      cases q2
      rw [c1] at c2
      exact absurd c2 (by decide)
    have hn : i = its.toArray.size := by
      simp
      omega
    have st : s.heap.IsListIter it a its.toArray.size ∧ s.heap.IsList a its.toArray := ⟨hn ▸ hit, p.isList⟩
    refine wpAny_pyNext_enum_endD (Draws.list (by show X.A.handled = none; exact I.ok.hd hc) it a hai its.toArray) he st ?_
    intro h' eb
    exact ⟨rfl, I.turned (t' := s.toks) (fun b o hb q => eb b o hb q) f0 f1 f3 f4 f5⟩
  self := fun A i s Q E st h => by
    obtain ⟨⟨_, he⟩, _⟩ := st
    exact wpAny_pyIter_enum he h

def iEnumC (K : PySem.W.Frag) (ta : TA) (c : Int) : TI := fun σ H R => ta σ H fun vs H1 => ∃ a xs, vs = [.ref a] ∧ SqL K H1 a xs ∧ R (Itn K a c) H1
theorem pi_enumC {X : Cx} {e : Expr} {ta : TA} {p pos tpos kpos cpos : Pos} {elts : List Expr} {kk j : Nat} {c : Int} (hg : Gl X "enumerate") (hm : X.mg "enumerate" = none) (ha : PA X [e] ta)
    (hs : starEach [e] X.env = [(false, eval e X.env)] := by rfl) (h0 : -(2 ^ 63) ≤ c := by decide) (h1 : c < 2 ^ 63 := by decide)
    (hall : (backToKw pos (keywordEach [⟨some "start", .Constant (.int c) j cpos, kpos⟩] X.env)).all (·.1.isSome) = true := by rfl)
    (hks : (backToKw pos (keywordEach [⟨some "start", .Constant (.int c) j cpos, kpos⟩] X.env)).filterMap (·.1) = [Str.ofString "start"] := by rfl)
    (hnone : (backToKw pos (keywordEach [⟨some "start", .Constant (.int c) j cpos, kpos⟩] X.env)).any (·.1.isNone) = false := by rfl)
    (hpl : (backTo pos (starEach [e] X.env)).any (·.1) = false := by rfl) :
    PI X (.Tuple elts kk tpos) (.Call (.Name "enumerate" p) [e] [⟨some "start", .Constant (.int c) j cpos, kpos⟩] pos) (iEnumC X.K ta c) := by
  refine ⟨fun pins s σ H R I h => ?_⟩
  refine wpAny_Call_Name_kw (ld_blt I hg hm boot_enumerate ?_)
  refine callWith_clsKw (thn (ha.run pos pins s σ H _ I h) fun us s1 ⟨vs, H1, I1, r1, q1⟩ => thn ((pk_cons pe_int pk_nil).run pos pins s1 σ H1 _ I1 (show tCons (tC (.int c)) tNil σ H1 (fun zs H2 => zs = [.int c] ∧ H2 = H1) from ⟨rfl, rfl⟩)) fun ws s2 ⟨zs, H2, I2, r2, e2, e3⟩ => ?_) hall hpl hnone (by rw [hs]; rfl)
  subst e2 e3
  obtain ⟨a, xs, ex, hq, q⟩ := q1
  subst ex
  rw [hks]
  obtain ⟨u, rfl, ru⟩ := vals1 r1
  obtain ⟨v, rfl, t, rfl⟩ := vals1 r2
  cases (show u = Value.ref a from ru)
  obtain ⟨its, rv, p', hz⟩ := I2.list hq
  refine enum_begins_start (begins_list a its.toArray) p'.isList h0 h1 fun h' he hit hsz hk => wpAny_pyIter_enum he ?_
  have I3 : Inv X pins σ H2 { s2 with heap := h' } := I2.kept (t' := s2.toks) hk
  refine ⟨s2.heap.objs.size + 1, [s2.heap.objs.size + 1, s2.heap.objs.size], _, _, H2, rfl, I3, turn_enumC a (s2.heap.objs.size + 1) s2.heap.objs.size c, ⟨⟨.none, ?_⟩, ⟨_, hit, rfl, rfl⟩, Nat.succ_ne_self _⟩, fun b hb => ?_, q⟩
  · rw [show c + ((0 : Nat) : Int) = c by omega]
    exact he
  · have hle : s2.heap.objs.size ≤ b := by
      rcases (show b = s2.heap.objs.size + 1 ∨ b = s2.heap.objs.size by simpa using hb) with z | z
      · rw [z]
        exact Nat.le_succ _
      · rw [z]
        exact Nat.le_refl _
    exact I2.fpOk hle (I2.hok.fresh hle)

/-! ### powers of great numbers -/
def CPowW (i j : Int) : Prop := 0 ≤ j ∧ j ≤ 64 ∧ i.natAbs < 2 ^ 1000
theorem op_powW {X : Cx} : OpR X (binaryOp .Pow) (rI CPowW fun i j => .int (i ^ j.toNat)) := opI fun i j _ _ _ _ _ hc q => by
  obtain ⟨h0, h1, h2⟩ := hc
  refine PyProof.Rows.pow_int h0 ?_ q
  have hb : Builtin.Int.intBits i ≤ 1000 := by
    unfold Builtin.Int.intBits
    split
    · omega
    · rename_i hne
      have : i.natAbs ≠ 0 := by
        intro z
        apply hne
        simp only [beq_iff_eq]
        omega
      have := (Nat.log2_lt this).mpr h2
      omega
  have : (Builtin.Int.intBits i : Int) * j ≤ 1000 * 64 := Int.mul_le_mul (by omega) h1 h0 (by omega)
  omega
end Bk
namespace Bk
open PySem PySem.Spec PyProof.Rows L2

/-! ### heaps that grow, but for one object -/
def But (a : Addr) (H H' : Hp) : Prop := ∀ b o, b ≠ a → H b = some o → H' b = some o
theorem But.refl (a : Addr) (H : Hp) : But a H H := fun _ _ _ h => h
theorem But.trans {a : Addr} {H H1 H2 : Hp} (x : But a H H1) (y : But a H1 H2) : But a H H2 := fun b o n h => y b o n (x b o n h)
theorem But.same {a : Addr} {H H1 : Hp} (x : Same H H1) : But a H H1 := fun b o _ h => x b o h
theorem But.new {a p : Addr} {H : Hp} {o : HO} (n : H p = none) : But a H (upd H p o) := fun b u _ h => by
  rw [upd_ne (ne_of_none h n)]
  exact h
theorem But.at {a : Addr} {H : Hp} {o : HO} : But a H (upd H a o) := fun b u n h => by
  rw [upd_ne n]
  exact h
/-- an object that was not there at H may change -/
theorem But.own {a p : Addr} {H H1 : Hp} {o : HO} (x : But a H H1) (n : H p = none) : But a H (upd H1 p o) := fun b u m h => by
  rw [upd_ne (ne_of_none h n)]
  exact x b u m h
theorem Same.new {p : Addr} {H : Hp} {o : HO} (n : H p = none) : Same H (upd H p o) := fun b u h => by
  rw [upd_ne (ne_of_none h n)]
  exact h
theorem Same.own {p : Addr} {H H1 : Hp} {o : HO} (x : Same H H1) (n : H p = none) : Same H (upd H1 p o) := fun b u h => by
  rw [upd_ne (ne_of_none h n)]
  exact x b u h
theorem Same.but {a : Addr} {H H1 H2 : Hp} (x : Same H H1) (n : H a = none) (y : But a H1 H2) : Same H H2 := fun b o h => y b o (ne_of_none h n) (x b o h)
theorem But.free {a b : Addr} {H H' : Hp} (x : But a H H') (n : b ≠ a) (h : H' b = none) : H b = none := by
  cases q : H b with
  | none => rfl
  | some o =>
    rw [x b o n q] at h
    cases h
theorem But.seq {K : PySem.W.Frag} {a b : Addr} {H H' : Hp} {xs : List V} (x : But a H H') (n : b ≠ a) (h : SqL K H b xs) : SqL K H' b xs := by
  rcases h with (h | ⟨o, h⟩) | h
  · exact .inl (.inl (x _ _ n h))
  · exact .inl (.inr ⟨o, x _ _ n h⟩)
  · exact .inr h
theorem But.seqT {K : PySem.W.Frag} {a b : Addr} {H H' : Hp} {xs : List V} (x : But a H H') (n : b ≠ a) (h : SqT K H b xs) : SqT K H' b xs := by
  rcases h with (h | ⟨o, h⟩) | h
  · exact .inl (.inl (x _ _ n h))
  · exact .inl (.inr ⟨o, x _ _ n h⟩)
  · exact .inr h
theorem Same.seqT {K : PySem.W.Frag} {b : Addr} {H H' : Hp} {xs : List V} (x : Same H H') (h : SqT K H b xs) : SqT K H' b xs := by
  rcases h with (h | ⟨o, h⟩) | h
  · exact .inl (.inl (x _ _ h))
  · exact .inl (.inr ⟨o, x _ _ h⟩)
  · exact .inr h

/-! ### lists of ints -/
abbrev vi (ns : List Int) : List V := ns.map V.int
abbrev di (ns : List Int) : List PyData := ns.map PyData.int
theorem vi_get {ns : List Int} {i : Nat} {x : Int} (h : ns[i]? = some x) : (vi ns)[i]? = some (.int x) := by
  rw [List.getElem?_map, h]
  rfl
theorem vi_at {ns : List Int} {i : Nat} (h : i < ns.length) : (vi ns)[i]? = some (.int ns[i]) := vi_get (List.getElem?_eq_getElem h)
theorem dpAll_ints (K : PySem.W.Frag) (H : Hp) : ∀ ns : List Int, DpAll K H (vi ns) (di ns)
  | [] => .nil
  | n :: r => .cons (.int n) (dpAll_ints K H r)
theorem dp_lst {K : PySem.W.Frag} {H : Hp} {a : Addr} {ns : List Int} (h : SqL K H a (vi ns)) : Dp K H (.ref a) (.list (di ns)) := .lst h (dpAll_ints K H ns)
theorem dp_tup {K : PySem.W.Frag} {H : Hp} {a : Addr} {ns : List Int} (h : SqT K H a (vi ns)) : Dp K H (.ref a) (.tuple (di ns)) := .tup h (dpAll_ints K H ns)
theorem canLay_ints : ∀ ns : List Int, PyData.canLayAll0 (di ns) = true
  | [] => rfl
  | n :: r => by simp [PyData.canLayAll0, PyData.canLay0, canLay_ints r]
theorem depthAll_ints : ∀ ns : List Int, PyData.depthAll (di ns) = 0
  | [] => rfl
  | n :: r => by simp [PyData.depthAll, PyData.depth, depthAll_ints r]
theorem shaped_l (ns : List Int) : SeqAt.shaped (.list (di ns)) = true := by
  simp [SeqAt.shaped, PyData.canLay0, canLay_ints, PyData.depth, depthAll_ints]
theorem shaped_t (ns : List Int) : SeqAt.shaped (.tuple (di ns)) = true := by
  simp [SeqAt.shaped, PyData.canLay0, canLay_ints, PyData.depth, depthAll_ints]
theorem eqvAll_ints : ∀ ns ms : List Int, PyData.eqvAll (di ns) (di ms) = decide (ns = ms)
  | [], [] => rfl
  | [], m :: r => by simp [PyData.eqvAll]
  | n :: r, [] => by simp [PyData.eqvAll]
  | n :: r, m :: q => by
    have ih := eqvAll_ints r q
    simp only [List.map_cons, PyData.eqvAll, PyData.eqv, ih]
    by_cases h1 : n = m
    · by_cases h2 : r = q
      · simp [h1, h2]
      · simp [h1, h2]
    · simp [h1]
theorem eqv_l (ns ms : List Int) : PyData.eqv (.list (di ns)) (.list (di ms)) = decide (ns = ms) := by
  rw [PyData.eqv]
  exact eqvAll_ints ns ms
theorem eqv_t (ns ms : List Int) : PyData.eqv (.tuple (di ns)) (.tuple (di ms)) = decide (ns = ms) := by
  rw [PyData.eqv]
  exact eqvAll_ints ns ms

/-! ### how long a text of data is -/
def wide (k : Nat) (ns : List Int) : Prop := ∀ n ∈ ns, n.natAbs.log2 < k
theorem wide.mono {j k : Nat} {ns : List Int} (h : wide j ns) (hk : j ≤ k) : wide k ns := fun n m => Nat.lt_of_lt_of_le (h n m) hk
theorem wide_lt {k : Nat} {ns : List Int} (h0 : 0 < k) (h : ∀ n ∈ ns, n.natAbs < 2 ^ k) : wide k ns := fun n m => PySem.Flt.log2_lt_of h0 (h n m)
theorem textFrom_le : ∀ (ts : List Str) (k L : Nat) (acc : Str), (∀ t ∈ ts, t.length ≤ L) → (textFrom k acc ts).length ≤ acc.length + (L + 2) * ts.length
  | [], k, L, acc, h => Nat.le_refl _
  | t :: r, k, L, acc, h => by
    have h1 := h t List.mem_cons_self
    have ih := textFrom_le r (k + 1) L (acc ++ (if k > 0 then ", " else "" : String) ++ t) fun u m => h u (List.mem_cons_of_mem _ m)
    show (textFrom (k + 1) (acc ++ (if k > 0 then ", " else "" : String) ++ t) r).length ≤ _
    refine Nat.le_trans ih ?_
    rw [strLen_append, strLen_append, List.length_cons, Nat.mul_add]
    have e : ((if k > 0 then ", " else "" : String) : Str).length ≤ 2 := by
      split
      · exact Nat.le_refl 2
      · exact Nat.zero_le 2
    omega
theorem listText_le {ts : List Str} {L : Nat} (h : ∀ t ∈ ts, t.length ≤ L) : (listText ts).length ≤ (L + 2) * ts.length + 2 := by
  unfold listText
  rw [strLen_append]
  have := textFrom_le ts 0 L "[" h
  have e1 : (("[" : String) : Str).length = 1 := rfl
  have e2 : (("]" : String) : Str).length = 1 := rfl
  omega
theorem piled_le : ∀ {ts : List Str} {L : Nat}, (∀ t ∈ ts, t.length ≤ L) → piled ts ≤ (L + 2) * ts.length
  | [], L, _ => by simp [piled]
  | t :: r, L, h => by
    have := h t List.mem_cons_self
    have ih := piled_le (ts := r) (L := L) fun u m => h u (List.mem_cons_of_mem _ m)
    rw [piled_cons, List.length_cons, Nat.mul_add]
    omega
theorem tupleText_le {ts : List Str} {L : Nat} (h : ∀ t ∈ ts, t.length ≤ L) : (tupleText ts).length ≤ (L + 2) * ts.length + 3 := by
  unfold tupleText
  rw [strLen_append, strLen_append]
  have e1 : ((("(" : String) : Str)).length = 1 := rfl
  have e3 : (((if ts.length == 1 then ",)" else ")" : String) : Str)).length ≤ 2 := by split <;> decide
  rw [e1]
  by_cases hn : ts = []
  · subst hn
    have : (Str.join ", " ([] : List Str)).length = 0 := rfl
    omega
  · have j := join_length_add ts hn
    have p := piled_le h
    omega
theorem shownAll_ints : ∀ ns : List Int, PyData.shownAll (di ns) = ns.map fun i => (toString i : Str)
  | [] => rfl
  | n :: r => by
    show PyData.shown (.int n) :: PyData.shownAll (di r) = _
    rw [shownAll_ints r, PyData.shown]
    rfl
theorem shown_le {k : Nat} {ns : List Int} (hk : 0 < k) (h : wide k ns) : ∀ t ∈ PyData.shownAll (di ns), t.length ≤ k + 1 := by
  intro t m
  rw [shownAll_ints] at m
  obtain ⟨i, hi, rfl⟩ := List.mem_map.mp m
  rw [PySem.ofString_length]
  exact int_text_length_le hk (h i hi)
theorem showable_ints : ∀ {ns : List Int}, wide 1920 ns → PyData.showableAll (di ns) = true
  | [], _ => rfl
  | n :: r, h => by
    have h1 : n.natAbs.log2 < 1920 := h n List.mem_cons_self
    have h2 := showable_ints (ns := r) fun m hm => h m (List.mem_cons_of_mem _ hm)
    simp [PyData.showableAll, PyData.showable, h1, h2]
theorem noDict_ints : ∀ ns : List Int, PyData.hasDictAll (di ns) = false
  | [] => rfl
  | n :: r => by simp [PyData.hasDictAll, PyData.hasDict, noDict_ints r]
/-- what repr asks of a list, a tuple of ints -/
theorem repr_l {K : PySem.W.Frag} {H : Hp} {a : Addr} {ns : List Int} {Q : VK} (h : SqL K H a (vi ns)) (hw : wide 1900 ns) (hl : ns.length ≤ 4000) (q : Q (.str (PyData.list (di ns)).shown) H) : rRepr K [.ref a] H Q := by
  refine ⟨a, .list (di ns), rfl, dp_lst h, ?_, ?_, ?_, ?_, q⟩
  · simp [PyData.showable, showable_ints (hw.mono (by decide))]
  · simp [PyData.hasDict, noDict_ints]
  · simp [PyData.depth, depthAll_ints]
  · rw [PyData.shown]
    have := listText_le (shown_le (by decide) hw)
    rw [shownAll_ints, List.length_map, ← shownAll_ints] at this
    rw [sizeLine_eq]
    omega
theorem repr_t {K : PySem.W.Frag} {H : Hp} {a : Addr} {ns : List Int} {Q : VK} (h : SqT K H a (vi ns)) (hw : wide 1900 ns) (hl : ns.length ≤ 4000) (q : Q (.str (PyData.tuple (di ns)).shown) H) : rRepr K [.ref a] H Q := by
  refine ⟨a, .tuple (di ns), rfl, dp_tup h, ?_, ?_, ?_, ?_, q⟩
  · simp [PyData.showable, showable_ints (hw.mono (by decide))]
  · simp [PyData.hasDict, noDict_ints]
  · simp [PyData.depth, depthAll_ints]
  · rw [PyData.shown]
    have := tupleText_le (shown_le (by decide) hw)
    rw [shownAll_ints, List.length_map, ← shownAll_ints] at this
    rw [sizeLine_eq]
    omega
end Bk
namespace Bk
open PySem PySem.Spec PyProof.Rows L2 Evl

section
variable {X : Cx} {CX : CXT} {k : Nat} {f : Addr} {fd : FuncData} {ps ks : List Str} {sp : Sp} {E : XK} {x : Str} {p pos : Pos} {tk : TA} {kws : List Keyword}
/-- f(k = v, ..) -/
theorem callGK0 {g : List Value → List Value → List Value} {gV : List V → List V → List V} (F : FnG X.prog X.w X.K X.mg X.base CX k f fd ps sp) (hr : Rm k X.A) (hg : Gl X x) (hm : X.mg x = some (.ref f)) (hk : PySem.W.keepIn X.K (.ref f) = true)
    (hb : KBinds X.K fd ps ks g gV) (hx : Passes CX X E) (hkw : PK X kws tk) (hall : (backToKw pos (keywordEach kws X.env)).all (·.1.isSome) = true := by rfl)
    (hks : (backToKw pos (keywordEach kws X.env)).filterMap (·.1) = ks := by rfl) (hdb : (x == ("__debug__" : Str)) = false := by decide)
    (hpl : ((backTo pos (starEach [] X.env)).any (·.1) || (backToKw pos (keywordEach kws X.env)).any (·.1.isNone)) = false := by rfl) :
    PE X (.Call (.Name x p) [] kws pos) (tCallK sp gV E tNil tk) := by
  refine ⟨fun pins s σ H Q I h => wpAny_Call_Name_kw (ld_glob I hg hm ?_ hdb)⟩
  refine PySem.W.callWith_KW0 (h₀ := X.base) I.ok.mod.kin hk hall (thn (hkw.run pos pins s σ H _ I h) ?_) hpl
  intro ws s2 ⟨zs, H2, I2, rz, q2⟩
  refine ⟨I2.kIn, ?_⟩
  rw [hks]
  exact runGK F hr hb hx I2 .nil rz q2
end

/-- how keywords are put into the parameters' order -/
def gK {α : Type} (na nk : Nat) (idx : List Nat) (us ws : List α) : List α := if us.length = na ∧ ws.length = nk then idx.filterMap (fun i => (us ++ ws)[i]?) else []
theorem vals_pick {xs : List V} {us : List Value} (r : Vals xs us) : ∀ idx : List Nat, Vals (idx.filterMap (fun i => xs[i]?)) (idx.filterMap (fun i => us[i]?))
  | [] => .nil
  | i :: idx => by
    have ih := vals_pick r idx
    cases g : xs[i]? with
    | none =>
      rw [List.filterMap_cons_none (by exact g), List.filterMap_cons_none (by exact r.none_of g)]
      exact ih
    | some x =>
      obtain ⟨u, hu, rx⟩ := r.get g
      rw [List.filterMap_cons_some (by exact g), List.filterMap_cons_some (by exact hu)]
      exact .cons rx ih
theorem gK_rel {na nk : Nat} {idx : List Nat} {vs : List V} {us : List Value} {zs : List V} {ws : List Value} (r : Vals vs us) (rz : Vals zs ws) : Vals (gK na nk idx vs zs) (gK na nk idx us ws) := by
  unfold gK
  rw [r.length, rz.length]
  split
  · exact vals_pick (r.append rz) idx
  · exact .nil
theorem gK_len {α : Type} {na nk n : Nat} {idx : List Nat} {us ws : List α} (h : (gK na nk idx us ws).length = n) (hn : n ≠ 0) : us.length = na ∧ ws.length = nk := by
  unfold gK at h
  split at h
  · assumption
  · exact absurd h.symm hn

/-! ### isinstance of a built-in class -/
theorem isi_ty {K : PySem.W.Frag} {H : Hp} {x : V} {t T : String} {b : Bool} {Q : VK} (ty : TyX K H x (.type t)) (k : kitB t T = some b) (q : Q (.bl b) H) : rIsi K [x, .ty T] H Q :=
  ⟨x, .ty T, .type t, .type T, b, rfl, .ty T, ty, kit_ty k, q⟩
theorem kb_int_int : kitB "int" "int" = some true := by decide +kernel
theorem kb_int_bool : kitB "int" "bool" = some false := by decide +kernel
theorem kb_list_list : kitB "list" "list" = some true := by decide +kernel
theorem kb_tuple_tuple : kitB "tuple" "tuple" = some true := by decide +kernel
theorem bt_int : bootBuiltins "int" = some (.type "int") := by decide +kernel
theorem bt_bool : bootBuiltins "bool" = some (.type "bool") := by decide +kernel
theorem bt_list : bootBuiltins "list" = some (.type "list") := by decide +kernel
theorem bt_tuple : bootBuiltins "tuple" = some (.type "tuple") := by decide +kernel
/-- the type of a list that is read -/
theorem ty_seql {K : PySem.W.Frag} {H : Hp} {a : Addr} {xs : List V} (h : SqL K H a xs) : TyX K H (.ref a) (.type "list") := by
  rcases h with (h | ⟨o, h⟩) | ⟨o, its, n, hk, hc, _⟩
  · exact .base (.lst h)
  · exact .base (.frz h)
  · exact .kList hk hc
theorem ty_seqt {K : PySem.W.Frag} {H : Hp} {a : Addr} {xs : List V} (h : SqT K H a xs) : TyX K H (.ref a) (.type "tuple") := by
  rcases h with (h | ⟨o, h⟩) | ⟨o, its, n, hk, hc, _⟩
  · exact .base (.tup h)
  · exact .fTuple h
  · exact .kTuple hk hc

/-! ### more of what evaluates to what -/
section
variable {K : PySem.W.Frag} {σ : L2.St} {H H' : Hp} {ta tb te : TE} {t u : TT} {x y z v : V}
theorem ev_isi {T t : String} {b : Bool} (h : Ev ta σ H x) (ty : ∀ H1, Ex H H1 → TyX K H1 x (.type t)) (k : kitB t T = some b) : Ev (tCB (rIsi K) (tCons ta (tCons (tC (.ty T)) tNil))) σ H (.bl b) := fun H1 e Q q =>
  h H1 e _ fun H2 e2 => isi_ty (ty H2 (e.trans e2)) k (q H2 e2)
theorem ev_sum {p : Addr} {ns : List Int} (ha : Ev ta σ H (.ref p)) (h : SqL K H p (vi ns)) : Ev (tCB (rSum K) (tCons ta tNil)) σ H (.int ns.sum) := fun H1 e Q q =>
  ha H1 e _ fun H2 e2 => ⟨p, ns, rfl, ex_l (e.trans e2) h, q H2 e2⟩
theorem ev_sumN {ns : List Int} (ha : EvL ta σ H (vi ns)) : Ev (tCB (rSum K) (tCons ta tNil)) σ H (.int ns.sum) := fun H1 e Q q =>
  ha H1 e _ fun p H2 hp e2 h2 => ⟨p, ns, rfl, sq_of h2, q H2 e2⟩
theorem ev_int1 {i : Int} (ha : Ev ta σ H (.int i)) : Ev (tCB (fun xs H Q => (∃ i, xs = [.int i] ∧ Q (.int i) H) ∨ ∃ k, xs = [.bl k] ∧ Q (.int (if k then 1 else 0)) H) (tCons ta tNil)) σ H (.int i) := fun H1 e Q q =>
  ha H1 e _ fun H2 e2 => .inl ⟨i, rfl, q H2 e2⟩
theorem ev_abs {i : Int} (ha : Ev ta σ H (.int i)) : Ev (tCB (fun xs H Q => ∃ i, xs = [.int i] ∧ Q (.int (if i < 0 then -i else i)) H) (tCons ta tNil)) σ H (.int (if i < 0 then -i else i)) := fun H1 e Q q =>
  ha H1 e _ fun H2 e2 => ⟨i, rfl, q H2 e2⟩
theorem ev_min2 {i j : Int} (ha : Ev ta σ H (.int i)) (hb : Ev tb σ H (.int j)) : Ev (tCB (fun xs H Q => ∃ i j, xs = [.int i, .int j] ∧ Q (.int (if j < i then j else i)) H) (tCons ta (tCons tb tNil))) σ H (.int (if j < i then j else i)) := fun H1 e Q q =>
  ha H1 e _ fun H2 e2 => hb H2 (e.trans e2) _ fun H3 e3 => ⟨i, j, rfl, q H3 (e2.trans e3)⟩
/-- tuple(xs), xs a new list -/
def rTupOf (K : PySem.W.Frag) : List V → Hp → VK → Prop := fun xs H Q => ∃ p ys, xs = [.ref p] ∧ ((SqL K H p ys ∧ ∀ l, H l = none → Q (.ref l) (upd H l (.tup ys))) ∨ (SqT K H p ys ∧ Q (.ref p) H))
theorem eu_tupOf {p : Addr} {xs : List V} (ha : Ev ta σ H (.ref p)) (h : SqL K H p xs) : EvU (tCB (rTupOf K) (tCons ta tNil)) σ H xs := fun H1 e Q q =>
  ha H1 e _ fun H2 e2 => ⟨p, xs, rfl, .inl ⟨ex_l (e.trans e2) h, fun l hl => q l _ (fresh_back e2 hl) (e2.trans (Ex.new hl)) upd_same⟩⟩
theorem eu_tupOfN {xs : List V} (ha : EvL ta σ H xs) : EvU (tCB (rTupOf K) (tCons ta tNil)) σ H xs := fun H1 e Q q =>
  ha H1 e _ fun p H2 hp e2 h2 => ⟨p, xs, rfl, .inl ⟨sq_of h2, fun l hl => q l _ (fresh_back e2 hl) (e2.trans (Ex.new hl)) upd_same⟩⟩
/-- a + b of lists -/
theorem el_cat {p q : Addr} {xs ys : List V} (ha : Ev ta σ H (.ref p)) (hb : EvL tb σ H ys) (h : H p = some (.lst xs)) (hz : xs.length + ys.length ≤ 100000) : EvL (tOp rCat ta tb) σ H (xs ++ ys) := fun H1 e Q k =>
  ha H1 e _ fun H2 e2 => hb H2 (e.trans e2) _ fun r H3 hr e3 h3 => ⟨p, r, xs, ys, rfl, rfl, e3 _ _ (e2 _ _ (e _ _ h)), h3, sz_of hz, fun l hl => k l _ (fresh_back (e2.trans e3) hl) ((e2.trans e3).trans (Ex.new hl)) upd_same⟩
theorem el_catNN {xs ys : List V} (ha : EvL ta σ H xs) (hb : EvL tb σ H ys) (hz : xs.length + ys.length ≤ 100000) : EvL (tOp rCat ta tb) σ H (xs ++ ys) := fun H1 e Q k =>
  ha H1 e _ fun p H2 hp e2 h2 => hb H2 (e.trans e2) _ fun r H3 hr e3 h3 => ⟨p, r, xs, ys, rfl, rfl, e3 _ _ h2, h3, sz_of hz, fun l hl => k l _ (fresh_back (e2.trans e3) hl) ((e2.trans e3).trans (Ex.new hl)) upd_same⟩
theorem el_catPP {p q : Addr} {xs ys : List V} (ha : Ev ta σ H (.ref p)) (hb : Ev tb σ H (.ref q)) (h : H p = some (.lst xs)) (h' : H q = some (.lst ys)) (hz : xs.length + ys.length ≤ 100000) : EvL (tOp rCat ta tb) σ H (xs ++ ys) := fun H1 e Q k =>
  ha H1 e _ fun H2 e2 => hb H2 (e.trans e2) _ fun H3 e3 => ⟨p, q, xs, ys, rfl, rfl, e3 _ _ (e2 _ _ (e _ _ h)), e3 _ _ (e2 _ _ (e _ _ h')), sz_of hz, fun l hl => k l _ (fresh_back (e2.trans e3) hl) ((e2.trans e3).trans (Ex.new hl)) upd_same⟩

/-! ### pairs: enumerate, zip -/
abbrev g2 (K : PySem.W.Frag) (i j : Nat) : TG := gTup K 2 (gCons (gName i) (gCons (gName j) gNil))
theorem g2_go {i j : Nat} {T : Addr} {x y : V} {Q : L2.St → Hp → Prop} (h : H T = some (.tup [x, y])) (q : Q ((σ.set i (some x)).set j (some y)) H) : g2 K i j (.ref T) σ H Q :=
  ⟨T, [x, y], rfl, .inl (.inl h), rfl, x, [y], rfl, y, [], rfl, rfl, q⟩
variable {D : Ends} {tu tz : TS}
theorem for_Itn {a : Addr} {xs : List V} {c : Int} {i j : Nat} (Pv : Nat → L2.St → Hp → Prop) (h0 : Pv 0 σ H) (hl : ∀ n σ' H', n ≤ xs.length → Pv n σ' H' → SqL K H' a xs)
    (hs : ∀ n x σ' H', xs[n]? = some x → Pv n σ' H' → ∀ H1, Ex H' H1 → tu { D with nx := Pv (n + 1), ct := Pv (n + 1), bk := D.nx } ((σ'.set i (some (.int (c + (n : Nat))))).set j (some x)) H1) (hd : ∀ σ' H', Pv xs.length σ' H' → D.nx σ' H') :
    ∃ W : Nat → Nat → L2.St → Hp → Prop, (∃ m, W 0 m σ H) ∧ ∀ n m σ H, W n m σ H → ((Itn K a c).stop n H ∧ D.nx σ H) ∨ ((Itn K a c).go n H ∧ ∃ N : L2.St → Hp → Prop, (∀ σ' H', N σ' H' → ∃ m', m' < m ∧ W (n + 1) m' σ' H') ∧
      ∀ x H', (Itn K a c).yld n H x H' → g2 K i j x σ H' fun σ2 H2 => tu { D with nx := N, ct := N, bk := D.nx } σ2 H2) := by
  refine ⟨fun n m σ H => m = xs.length - n ∧ n ≤ xs.length ∧ Pv n σ H, ⟨xs.length, by simp, Nat.zero_le _, h0⟩, ?_⟩
  rintro n m σ H ⟨rfl, hi, p⟩
  have q := hl n σ H hi p
  by_cases hlt : n < xs.length
  · refine .inr ⟨⟨xs, xs[n], q, by simp [hlt]⟩, Pv (n + 1), fun σ' H' p' => ⟨xs.length - (n + 1), by omega, rfl, hlt, p'⟩, ?_⟩
    rintro v H' ⟨T, x, rfl, nT, rfl, hx⟩
    exact g2_go upd_same (hs n x σ H (hx xs q) p _ (Ex.new nT))
  · have e : n = xs.length := by omega
    subst e
    exact .inl ⟨⟨xs, q, rfl⟩, hd σ H p⟩
theorem for_Ite {a : Addr} {xs : List V} {i j : Nat} (Pv : Nat → L2.St → Hp → Prop) (h0 : Pv 0 σ H) (hl : ∀ n σ' H', n ≤ xs.length → Pv n σ' H' → SqL K H' a xs)
    (hs : ∀ n x σ' H', xs[n]? = some x → Pv n σ' H' → ∀ H1, Ex H' H1 → tu { D with nx := Pv (n + 1), ct := Pv (n + 1), bk := D.nx } ((σ'.set i (some (.int (n : Nat)))).set j (some x)) H1) (hd : ∀ σ' H', Pv xs.length σ' H' → D.nx σ' H') :
    ∃ W : Nat → Nat → L2.St → Hp → Prop, (∃ m, W 0 m σ H) ∧ ∀ n m σ H, W n m σ H → ((Ite K a).stop n H ∧ D.nx σ H) ∨ ((Ite K a).go n H ∧ ∃ N : L2.St → Hp → Prop, (∀ σ' H', N σ' H' → ∃ m', m' < m ∧ W (n + 1) m' σ' H') ∧
      ∀ x H', (Ite K a).yld n H x H' → g2 K i j x σ H' fun σ2 H2 => tu { D with nx := N, ct := N, bk := D.nx } σ2 H2) := by
  refine ⟨fun n m σ H => m = xs.length - n ∧ n ≤ xs.length ∧ Pv n σ H, ⟨xs.length, by simp, Nat.zero_le _, h0⟩, ?_⟩
  rintro n m σ H ⟨rfl, hi, p⟩
  have q := hl n σ H hi p
  by_cases hlt : n < xs.length
  · refine .inr ⟨⟨xs, xs[n], q, by simp [hlt]⟩, Pv (n + 1), fun σ' H' p' => ⟨xs.length - (n + 1), by omega, rfl, hlt, p'⟩, ?_⟩
    rintro v H' ⟨T, x, rfl, nT, rfl, hx⟩
    exact g2_go upd_same (hs n x σ H (hx xs q) p _ (Ex.new nT))
  · have e : n = xs.length := by omega
    subst e
    exact .inl ⟨⟨xs, q, Nat.le_refl _⟩, hd σ H p⟩
theorem s_forEn {a : Addr} {xs : List V} {tl : TE} {i j : Nat} (h : Ev tl σ H (.ref a)) (hx : SqL K H a xs) (Pv : Nat → L2.St → Hp → Prop) (h0 : ∀ H1, Ex H H1 → Pv 0 σ H1) (hl : ∀ n σ' H', n ≤ xs.length → Pv n σ' H' → SqL K H' a xs)
    (hs : ∀ n x σ' H', xs[n]? = some x → Pv n σ' H' → ∀ H1, Ex H' H1 → tu { D with nx := Pv (n + 1), ct := Pv (n + 1), bk := D.nx } ((σ'.set i (some (.int (n : Nat)))).set j (some x)) H1) (hd : ∀ σ' H', Pv xs.length σ' H' → D.nx σ' H') :
    tFor (iEnum K (tCons tl tNil)) (g2 K i j) tu D σ H :=
  h H (Ex.refl H) _ fun H1 e => ⟨a, xs, rfl, ex_l e hx, for_Ite Pv (h0 H1 e) hl hs hd⟩
theorem s_forEnC {a : Addr} {xs : List V} {tl : TE} {c : Int} {i j : Nat} (h : Ev tl σ H (.ref a)) (hx : SqL K H a xs) (Pv : Nat → L2.St → Hp → Prop) (h0 : ∀ H1, Ex H H1 → Pv 0 σ H1) (hl : ∀ n σ' H', n ≤ xs.length → Pv n σ' H' → SqL K H' a xs)
    (hs : ∀ n x σ' H', xs[n]? = some x → Pv n σ' H' → ∀ H1, Ex H' H1 → tu { D with nx := Pv (n + 1), ct := Pv (n + 1), bk := D.nx } ((σ'.set i (some (.int (c + (n : Nat))))).set j (some x)) H1) (hd : ∀ σ' H', Pv xs.length σ' H' → D.nx σ' H') :
    tFor (iEnumC K (tCons tl tNil) c) (g2 K i j) tu D σ H :=
  h H (Ex.refl H) _ fun H1 e => ⟨a, xs, rfl, ex_l e hx, for_Itn Pv (h0 H1 e) hl hs hd⟩
theorem s_forNEnC {xs : List V} {tl : TE} {c : Int} {i j : Nat} (h : EvL tl σ H xs) (Pv : Addr → Nat → L2.St → Hp → Prop) (h0 : ∀ p H1, H p = none → Ex H H1 → H1 p = some (.lst xs) → Pv p 0 σ H1) (hl : ∀ p n σ' H', n ≤ xs.length → Pv p n σ' H' → SqL K H' p xs)
    (hs : ∀ p n x σ' H', xs[n]? = some x → Pv p n σ' H' → ∀ H1, Ex H' H1 → tu { D with nx := Pv p (n + 1), ct := Pv p (n + 1), bk := D.nx } ((σ'.set i (some (.int (c + (n : Nat))))).set j (some x)) H1) (hd : ∀ p σ' H', Pv p xs.length σ' H' → D.nx σ' H') :
    tFor (iEnumC K (tCons tl tNil) c) (g2 K i j) tu D σ H :=
  h H (Ex.refl H) _ fun p H1 hp e h1 => ⟨p, xs, rfl, sq_of h1, for_Itn (Pv p) (h0 p H1 hp e h1) (hl p) (hs p) (hd p)⟩

/-- [e for i, x in enumerate(xs, start=c) if ..] of pure parts -/
theorem lc_Itn {a : Addr} {xs : List V} {c : Int} {i j : Nat} {vs : List Nat} {H1 : Hp} {Dl : Addr} {Qd : Hp → Prop} (f : Nat → Bool) (v : Nat → V) (hD : H1 Dl = none) (hx : SqL K H1 a xs) (hz : xs.length ≤ 40000)
    (hw : ∀ x y, wipe (((wipe σ vs).set i (some x)).set j (some y)) vs = wipe σ vs)
    (ht : ∀ (n : Nat) x H2, Ex H1 H2 → xs[n]? = some x → EvT t (((wipe σ vs).set i (some (.int (c + (n : Nat))))).set j (some x)) H2 (f n))
    (he : ∀ (n : Nat) x H2, Ex H1 H2 → xs[n]? = some x → f n = true → Ev te (((wipe σ vs).set i (some (.int (c + (n : Nat))))).set j (some x)) H2 (v n)) (hd : ∀ H', Cw H1 f v Dl xs.length H' → Qd H') :
    ∃ W : Nat → Nat → Hp → Prop, (∃ m, W 0 m (upd H1 Dl (.lst []))) ∧ ∀ n m H, W n m H →
      ((Itn K a c).stop n H ∧ Qd H) ∨ ((Itn K a c).go n H ∧ ∃ Nx : Hp → Prop, (∀ H', Nx H' → ∃ m', m' < m ∧ W (n + 1) m' H') ∧ ∀ x H', (Itn K a c).yld n H x H' → g2 K i j x (wipe σ vs) H' fun σ2 H2 => wipe σ2 vs = wipe σ vs ∧ t σ2 H2 fun b H3 =>
        if b = true then te σ2 H3 fun y H4 => ∃ acc, H4 Dl = some (.lst acc) ∧ acc.length < sizeLine ∧ Nx (upd H4 Dl (.lst (acc ++ [y]))) else Nx H3) := by
  refine ⟨fun n m H => m = xs.length - n ∧ n ≤ xs.length ∧ Cw H1 f v Dl n H, ⟨xs.length, by simp, Nat.zero_le _, hD, Ex.new hD, upd_same⟩, ?_⟩
  rintro n m H ⟨rfl, hi, p⟩
  have q := ex_l p.2.1 hx
  by_cases hlt : n < xs.length
  · refine .inr ⟨⟨xs, xs[n], q, by simp [hlt]⟩, Cw H1 f v Dl (n + 1), fun H' p' => ⟨xs.length - (n + 1), by omega, rfl, hlt, p'⟩, ?_⟩
    rintro w H' ⟨T, x, rfl, nT, rfl, hg⟩
    have e1 := Ex.new (o := .tup [.int (c + (n : Nat)), x]) nT
    have gx := hg xs q
    refine g2_go upd_same ⟨hw _ _, cw_turn ⟨p.1, p.2.1.trans e1, e1 _ _ p.2.2⟩ (by omega) (ht n x H1 (Ex.refl H1) gx) (he n x H1 (Ex.refl H1) gx)⟩
  · have e : n = xs.length := by omega
    subst e
    exact .inl ⟨⟨xs, q, rfl⟩, hd H p⟩
theorem el_lcEnC {a : Addr} {xs : List V} {tl : TE} {c : Int} {i j : Nat} {vs : List Nat} (f : Nat → Bool) (v : Nat → V) (h : Ev tl σ H (.ref a)) (hx : SqL K H a xs) (hz : xs.length ≤ 40000)
    (hw : ∀ x y, wipe (((wipe σ vs).set i (some x)).set j (some y)) vs = wipe σ vs)
    (ht : ∀ (n : Nat) x H1, Ex H H1 → xs[n]? = some x → EvT t (((wipe σ vs).set i (some (.int (c + (n : Nat))))).set j (some x)) H1 (f n))
    (he : ∀ (n : Nat) x H1, Ex H H1 → xs[n]? = some x → f n = true → Ev te (((wipe σ vs).set i (some (.int (c + (n : Nat))))).set j (some x)) H1 (v n)) :
    EvL (tLc (iEnumC K (tCons tl tNil) c) (g2 K i j) t te vs) σ H (given xs.length f v) := fun H0 e Q q => h H0 e _ fun H1 e1 => ⟨a, xs, rfl, ex_l (e.trans e1) hx, fun Dl hD =>
  lc_Itn f v hD (ex_l (e.trans e1) hx) hz hw (fun n x H2 e2 gx => ht n x H2 ((e.trans e1).trans e2) gx) (fun n x H2 e2 gx hf => he n x H2 ((e.trans e1).trans e2) gx hf) fun H' p => q Dl H' (fresh_back e1 p.1) (e1.trans p.2.1) p.2.2⟩
theorem el_lcNEnC {xs : List V} {tl : TE} {c : Int} {i j : Nat} {vs : List Nat} (f : Nat → Bool) (v : Nat → V) (h : EvL tl σ H xs) (hz : xs.length ≤ 40000)
    (hw : ∀ x y, wipe (((wipe σ vs).set i (some x)).set j (some y)) vs = wipe σ vs)
    (ht : ∀ (n : Nat) x H1, Ex H H1 → xs[n]? = some x → EvT t (((wipe σ vs).set i (some (.int (c + (n : Nat))))).set j (some x)) H1 (f n))
    (he : ∀ (n : Nat) x H1, Ex H H1 → xs[n]? = some x → f n = true → Ev te (((wipe σ vs).set i (some (.int (c + (n : Nat))))).set j (some x)) H1 (v n)) :
    EvL (tLc (iEnumC K (tCons tl tNil) c) (g2 K i j) t te vs) σ H (given xs.length f v) := fun H0 e Q q => h H0 e _ fun a H1 ha e1 h1 => ⟨a, xs, rfl, sq_of h1, fun Dl hD =>
  lc_Itn f v hD (sq_of h1) hz hw (fun n x H2 e2 gx => ht n x H2 ((e.trans e1).trans e2) gx) (fun n x H2 e2 gx hf => he n x H2 ((e.trans e1).trans e2) gx hf) fun H' p => q Dl H' (fresh_back e1 p.1) (e1.trans p.2.1) p.2.2⟩
/-- [e for x, y in zip(xs, ys)] of pure parts -/
theorem el_lcZ {a b : Addr} {xs ys : List V} {tl tr : TE} {i j : Nat} {vs : List Nat} (v : Nat → V) (h : Ev tl σ H (.ref a)) (h' : Ev tr σ H (.ref b)) (hx : SqL K H a xs) (hy : SqL K H b ys) (hz : xs.length ≤ 40000)
    (hw : ∀ x y, wipe (((wipe σ vs).set i (some x)).set j (some y)) vs = wipe σ vs)
    (he : ∀ (n : Nat) x y H1, Ex H H1 → xs[n]? = some x → ys[n]? = some y → Ev te (((wipe σ vs).set i (some x)).set j (some y)) H1 (v n)) :
    EvL (tLc (iZip K (tCons tl (tCons tr tNil))) (g2 K i j) tYes te vs) σ H (given (min xs.length ys.length) (fun _ => true) v) := fun H0 e Q q => h H0 e _ fun H1 e1 => h' H1 (e.trans e1) _ fun H2 e2 => by
  have ee := (e.trans e1).trans e2
  refine ⟨a, b, xs, ys, rfl, ex_l ee hx, ex_l ee hy, fun Dl hD => ?_⟩
  refine ⟨fun n m H => m = min xs.length ys.length - n ∧ n ≤ min xs.length ys.length ∧ Cw H2 (fun _ => true) v Dl n H, ⟨min xs.length ys.length, by simp, Nat.zero_le _, hD, Ex.new hD, upd_same⟩, ?_⟩
  rintro n m H ⟨rfl, hi, p⟩
  have qx := ex_l (ee.trans p.2.1) hx
  have qy := ex_l (ee.trans p.2.1) hy
  by_cases hlt : n < min xs.length ys.length
  · have h1 : n < xs.length := by omega
    have h2 : n < ys.length := by omega
    refine .inr ⟨⟨xs, ys, xs[n], ys[n], qx, qy, by simp [h1], by simp [h2]⟩, Cw H2 (fun _ => true) v Dl (n + 1), fun H' p' => ⟨min xs.length ys.length - (n + 1), by omega, rfl, hlt, p'⟩, ?_⟩
    rintro w H' ⟨T, x, y, rfl, nT, rfl, gx, gy⟩
    have e3 := Ex.new (o := .tup [x, y]) nT
    refine g2_go upd_same ⟨hw _ _, cw_turn ⟨p.1, p.2.1.trans e3, e3 _ _ p.2.2⟩ (by omega) (fun H3 _ Q q => q H3 (Ex.refl H3)) fun _ => he n x y H2 ee (gx xs qx) (gy ys qy)⟩
  · have e' : n = min xs.length ys.length := by omega
    subst e'
    exact .inl ⟨⟨xs, ys, qx, qy, by omega⟩, q Dl H (fresh_back (e1.trans e2) p.1) ((e1.trans e2).trans p.2.1) p.2.2⟩
end
end Bk
namespace Bk
open PySem PySem.Spec PyProof.Rows L2 Evl

section
variable {K : PySem.W.Frag} {σ : L2.St} {H H' : Hp} {ta tb te tc : TE} {t u : TT} {x y z v : V}
theorem ev_chain {r r' : R2} {w : V} {a b : Bool} (ha : Ev ta σ H x) (hb : Ev tb σ H y) (h1 : RV r x y H (.bl a)) (hc : a = true → Ev tc σ H w) (h2 : a = true → RV r' y w H (.bl b)) : Ev (tChain r r' ta tb tc) σ H (.bl (a && b)) := fun H1 e Q q =>
  ha H1 e _ fun H2 e2 => hb H2 (e.trans e2) _ fun H3 e3 => h1 H3 ((e.trans e2).trans e3) _ fun H4 e4 => ⟨a, rfl, by
    have ee := ((e.trans e2).trans e3).trans e4
    cases a with
    | false =>
      refine iteF ?_
      exact q H4 ((e2.trans e3).trans e4)
    | true =>
      refine iteT ?_
      exact hc rfl H4 ee _ fun H5 e5 => h2 rfl H5 (ee.trans e5) _ fun H6 e6 => q H6 ((((e2.trans e3).trans e4).trans e5).trans e6)⟩
/-- [0] * n and its like -/
theorem el_rep {xs : List V} {n : Int} (ha : EvL ta σ H xs) (hb : ∀ H1, Ex H H1 → Ev tb σ H1 (.int n)) (h0 : 0 ≤ n) (hz : xs.length * n.toNat ≤ 100000) (hn : n ≤ 100000) : EvL (tOp rRep ta tb) σ H (List.replicate n.toNat xs).flatten := fun H1 e Q q =>
  ha H1 e _ fun p H2 hp e2 h2 => hb H2 (e.trans e2) H2 (Ex.refl H2) _ fun H3 e3 => ⟨p, n, xs, rfl, rfl, e3 _ _ h2, by omega, by omega, sz_of hz, fun l hl => q l _ (fresh_back (e2.trans e3) hl) ((e2.trans e3).trans (Ex.new hl)) upd_same⟩
theorem el_ofL {p : Addr} {xs : List V} (ha : Ev ta σ H (.ref p)) (h : SqL K H p xs) : EvL (tCB (fun xs H Q => ∃ p ys, xs = [.ref p] ∧ (SqL K H p ys ∨ SqT K H p ys) ∧ ∀ l, H l = none → Q (.ref l) (upd H l (.lst ys))) (tCons ta tNil)) σ H xs := el_list ha h
/-- list(range(a, b)) -/
theorem el_rg1 {n : Int} (ha : Ev ta σ H (.int n)) (h0 : 0 ≤ n) (hn : n ≤ 100000) : EvL (tLstRg (tRg1 ta)) σ H (rgV 0 n) := fun H1 e Q q =>
  ha H1 e _ fun H2 e2 => ⟨n, rfl, RgOk.of_le (by omega) (by omega) (by omega) h0, fun l hl => q l _ (fresh_back e2 hl) (e2.trans (Ex.new hl)) upd_same⟩
theorem ev_lenT {p : Addr} {xs : List V} (ha : Ev ta σ H (.ref p)) (h : SqT K H p xs) : Ev (tCB (rLenS K) (tCons ta tNil)) σ H (.int (xs.length : Int)) := fun H1 e Q q =>
  ha H1 e _ fun H2 e2 => ⟨p, xs, rfl, Or.inr (ex_t (e.trans e2) h), q H2 e2⟩
theorem ev_lenNT {xs : List V} (ha : EvU ta σ H xs) : Ev (tCB (rLenS K) (tCons ta tNil)) σ H (.int (xs.length : Int)) := fun H1 e Q q =>
  ha H1 e _ fun p H2 _ e2 h2 => ⟨p, xs, rfl, Or.inr (st_of h2), q H2 e2⟩
/-- repr of lists and tuples of ints -/
theorem ev_reprL {p : Addr} {ns : List Int} (ha : Ev ta σ H (.ref p)) (h : SqL K H p (vi ns)) (hw : wide 1900 ns) (hz : ns.length ≤ 4000) : Ev (tCB (rRepr K) (tCons ta tNil)) σ H (.str (PyData.list (di ns)).shown) := fun H1 e Q q =>
  ha H1 e _ fun H2 e2 => repr_l (ex_l (e.trans e2) h) hw hz (q H2 e2)
theorem ev_reprNL {ns : List Int} (ha : EvL ta σ H (vi ns)) (hw : wide 1900 ns) (hz : ns.length ≤ 4000) : Ev (tCB (rRepr K) (tCons ta tNil)) σ H (.str (PyData.list (di ns)).shown) := fun H1 e Q q =>
  ha H1 e _ fun p H2 _ e2 h2 => repr_l (sq_of h2) hw hz (q H2 e2)
theorem ev_reprT {p : Addr} {ns : List Int} (ha : Ev ta σ H (.ref p)) (h : SqT K H p (vi ns)) (hw : wide 1900 ns) (hz : ns.length ≤ 4000) : Ev (tCB (rRepr K) (tCons ta tNil)) σ H (.str (PyData.tuple (di ns)).shown) := fun H1 e Q q =>
  ha H1 e _ fun H2 e2 => repr_t (ex_t (e.trans e2) h) hw hz (q H2 e2)
theorem ev_reprNT {ns : List Int} (ha : EvU ta σ H (vi ns)) (hw : wide 1900 ns) (hz : ns.length ≤ 4000) : Ev (tCB (rRepr K) (tCons ta tNil)) σ H (.str (PyData.tuple (di ns)).shown) := fun H1 e Q q =>
  ha H1 e _ fun p H2 _ e2 h2 => repr_t (st_of h2) hw hz (q H2 e2)
/-- == and != of data -/
theorem rv_eqL {p q : Addr} {ns ms : List Int} (h : SqL K H p (vi ns)) (h' : SqL K H q (vi ms)) : RV (rEqD K) (.ref p) (.ref q) H (.bl (decide (ns = ms))) := fun H1 e Q k =>
  ⟨_, _, dp_lst (ex_l e h), dp_lst (ex_l e h'), shaped_l ns, shaped_l ms, by rw [eqv_l]; exact k H1 (Ex.refl H1)⟩
theorem rv_neL {p q : Addr} {ns ms : List Int} (h : SqL K H p (vi ns)) (h' : SqL K H q (vi ms)) : RV (rNeD K) (.ref p) (.ref q) H (.bl (!decide (ns = ms))) := fun H1 e Q k =>
  ⟨_, _, dp_lst (ex_l e h), dp_lst (ex_l e h'), shaped_l ns, shaped_l ms, by rw [eqv_l]; exact k H1 (Ex.refl H1)⟩
/-- a new tuple from a call -/
def SpU (sp : Sp) (vs : List V) (H : Hp) (xs : List V) : Prop := ∀ H1, Ex H H1 → ∀ Q : VK, (∀ p H2, H1 p = none → Ex H1 H2 → H2 p = some (.tup xs) → Q (.ref p) H2) → ∀ E : XK, sp vs H1 Q E
theorem eu_call {sp : Sp} {dvs vs xs : List V} {E : XK} {ta : TA} (h : EvA ta σ H vs) (hs : SpU sp (vs ++ dvs) H xs) : EvU (tCall sp dvs E ta) σ H xs := fun H1 e Q q =>
  h H1 e _ fun H2 e2 => hs H2 (e.trans e2) Q (fun p H3 hp e3 h3 => q p H3 (fresh_back e2 hp) (e2.trans e3) h3) E
theorem eu_callK {sp : Sp} {gV : List V → List V → List V} {vs zs xs : List V} {E : XK} {ta tk : TA} (h : EvA ta σ H vs) (h' : EvA tk σ H zs) (hs : SpU sp (gV vs zs) H xs) : EvU (tCallK sp gV E ta tk) σ H xs := fun H1 e Q q =>
  h H1 e _ fun H2 e2 => h' H2 (e.trans e2) _ fun H3 e3 => hs H3 ((e.trans e2).trans e3) Q (fun p H4 hp e4 h4 => q p H4 (fresh_back (e2.trans e3) hp) ((e2.trans e3).trans e4) h4) E
theorem el_callK {sp : Sp} {gV : List V → List V → List V} {vs zs xs : List V} {E : XK} {ta tk : TA} (h : EvA ta σ H vs) (h' : EvA tk σ H zs) (hs : SpL sp (gV vs zs) H xs) : EvL (tCallK sp gV E ta tk) σ H xs := fun H1 e Q q =>
  h H1 e _ fun H2 e2 => h' H2 (e.trans e2) _ fun H3 e3 => hs H3 ((e.trans e2).trans e3) Q (fun p H4 hp e4 h4 => q p H4 (fresh_back (e2.trans e3) hp) ((e2.trans e3).trans e4) h4) E
theorem ev_callK {sp : Sp} {gV : List V → List V → List V} {vs zs : List V} {E : XK} {ta tk : TA} (h : EvA ta σ H vs) (h' : EvA tk σ H zs) (hs : SpV sp (gV vs zs) H z) : Ev (tCallK sp gV E ta tk) σ H z := fun H1 e Q q =>
  h H1 e _ fun H2 e2 => h' H2 (e.trans e2) _ fun H3 e3 => hs H3 ((e.trans e2).trans e3) Q (fun H4 e4 => q H4 ((e2.trans e3).trans e4)) E
/-- an argument that is a new list, then a call -/
theorem eu_callL {sp : Sp} {xs ys : List V} {E : XK} (h : EvL ta σ H xs) (hs : ∀ p H1, Ex H H1 → H1 p = some (.lst xs) → SpU sp [.ref p] H1 ys) : EvU (tCall sp [] E (tCons ta tNil)) σ H ys := fun H1 e Q q =>
  h H1 e _ fun p H2 hp e2 h2 => hs p H2 (e.trans e2) h2 H2 (Ex.refl H2) Q (fun r H3 hr e3 h3 => q r H3 (fresh_back e2 hr) (e2.trans e3) h3) E
theorem el_callL {sp : Sp} {xs ys : List V} {E : XK} (h : EvL ta σ H xs) (hs : ∀ p H1, Ex H H1 → H1 p = some (.lst xs) → SpL sp [.ref p] H1 ys) : EvL (tCall sp [] E (tCons ta tNil)) σ H ys := fun H1 e Q q =>
  h H1 e _ fun p H2 hp e2 h2 => hs p H2 (e.trans e2) h2 H2 (Ex.refl H2) Q (fun r H3 hr e3 h3 => q r H3 (fresh_back e2 hr) (e2.trans e3) h3) E
theorem ev_callL {sp : Sp} {xs : List V} {E : XK} (h : EvL ta σ H xs) (hs : ∀ p H1, Ex H H1 → H1 p = some (.lst xs) → SpV sp [.ref p] H1 z) : Ev (tCall sp [] E (tCons ta tNil)) σ H z := fun H1 e Q q =>
  h H1 e _ fun p H2 hp e2 h2 => hs p H2 (e.trans e2) h2 H2 (Ex.refl H2) Q (fun H3 e3 => q H3 (e2.trans e3)) E
theorem ev_callU {sp : Sp} {xs : List V} {E : XK} (h : EvU ta σ H xs) (hs : ∀ p H1, Ex H H1 → H1 p = some (.tup xs) → SpV sp [.ref p] H1 z) : Ev (tCall sp [] E (tCons ta tNil)) σ H z := fun H1 e Q q =>
  h H1 e _ fun p H2 hp e2 h2 => hs p H2 (e.trans e2) h2 H2 (Ex.refl H2) Q (fun H3 e3 => q H3 (e2.trans e3)) E
def RetU (xs : List V) (H : Hp) (Q : VK) : Prop := ∀ p H2, H p = none → Ex H H2 → H2 p = some (.tup xs) → Q (.ref p) H2
end

/-! ### a well: three ints, of which draws are made -/
def Well (H : Hp) (a : Addr) (n : Nat) : Prop := ∃ x y c : Int, H a = some (.lst [.int x, .int y, .int c]) ∧ 0 ≤ y ∧ y < 2 ^ 200 ∧ 0 ≤ c ∧ c ≤ n
theorem Well.mono {H : Hp} {a : Addr} {n m : Nat} (h : Well H a n) (l : n ≤ m) : Well H a m := by
  obtain ⟨x, y, c, h1, h2, h3, h4, h5⟩ := h
  exact ⟨x, y, c, h1, h2, h3, h4, by omega⟩
theorem Well.ex {H H' : Hp} {a : Addr} {n : Nat} (h : Well H a n) (e : Ex H H') : Well H' a n := by
  obtain ⟨x, y, c, h1, h2⟩ := h
  exact ⟨x, y, c, e _ _ h1, h2⟩
theorem Well.ne {H : Hp} {a p : Addr} {n : Nat} (h : Well H a n) (hp : H p = none) : p ≠ a := by
  obtain ⟨x, y, c, h1, h2⟩ := h
  exact (ne_of_none h1 hp).symm
/-- the promise of a draw -/
def sp_dr (K : PySem.W.Frag) : Sp := fun vs H Q _ => ∃ (a : Addr) (n : Nat) (m : Int), vs = [.ref a, .int m] ∧ Well H a n ∧ n + 1 ≤ 2 ^ 50 ∧ 0 < m ∧ m < 2 ^ 8000 ∧
  ∀ (r : Int) (H2 : Hp), But a H H2 → Well H2 a (n + 1) → 0 ≤ r → r < m → Q (.int r) H2
/-- without the well -/
def hid (a : Addr) (H : Hp) : Hp := fun b => if b = a then none else H b
theorem hid_ne {a b : Addr} {H : Hp} (h : b ≠ a) : hid a H b = H b := if_neg h
theorem ex_hid {a : Addr} {H H1 : Hp} (x : But a H H1) : Ex (hid a H) H1 := fun b o h => by
  by_cases c : b = a
  · rw [c] at h
    unfold hid at h
    rw [if_pos rfl] at h
    cases h
  · rw [hid_ne c] at h
    exact x b o c h
theorem But.ex {a : Addr} {H H1 : Hp} (x : Ex H H1) : But a H H1 := fun b o _ h => x b o h
/-- what evaluates, drawing d times, to something of which P -/
def EvW (a : Addr) (d : Nat) (te : TE) (σ : L2.St) (H : Hp) (P : V → Prop) : Prop := ∀ (n : Nat) (H1 : Hp), But a H H1 → Well H1 a n → n + d ≤ 2 ^ 50 → ∀ Q : VK, (∀ v H2, But a H1 H2 → Well H2 a (n + d) → P v → Q v H2) → te σ H1 Q
def EvWL (a : Addr) (d : Nat) (te : TE) (σ : L2.St) (H : Hp) (P : List V → Prop) : Prop := ∀ (n : Nat) (H1 : Hp), But a H H1 → Well H1 a n → n + d ≤ 2 ^ 50 → ∀ Q : VK, (∀ p xs H2, H1 p = none → But a H1 H2 → Well H2 a (n + d) → H2 p = some (.lst xs) → P xs → Q (.ref p) H2) → te σ H1 Q
section
variable {K : PySem.W.Frag} {σ : L2.St} {H : Hp} {ta tb te ti tl : TE} {a : Addr} {d d1 d2 : Nat} {P P1 P2 : V → Prop} {v : V}
theorem EvW.mono (x : EvW a d te σ H P) (h : ∀ v, P v → P1 v) : EvW a d te σ H P1 := fun n H1 b w l Q q => x n H1 b w l Q fun v H2 b2 w2 p => q v H2 b2 w2 (h v p)
theorem ew_pure (h : Ev te σ (hid a H) v) (p : P v) : EvW a 0 te σ H P := fun n H1 b w l Q q => h H1 (ex_hid b) Q fun H2 e2 => q v H2 (But.ex e2) (w.ex e2) p
theorem ew_op {r : R2} (h1 : EvW a d1 ta σ H P1) (h2 : EvW a d2 tb σ H P2) (hr : ∀ x y, P1 x → P2 y → ∃ z, (∀ H, RV r x y H z) ∧ P z) : EvW a (d1 + d2) (tOp r ta tb) σ H P := fun n H1 b w l Q q =>
  h1 n H1 b w (by omega) _ fun x H2 b2 w2 p => h2 (n + d1) H2 (b.trans b2) w2 (by omega) _ fun y H3 b3 w3 p' => by
    obtain ⟨z, hz, pz⟩ := hr x y p p'
    refine hz H3 H3 (Ex.refl H3) Q fun H4 e4 => q z H4 ((b2.trans b3).trans (But.ex e4)) ?_ pz
    have w4 := w3.ex e4
    rw [Nat.add_assoc] at w4
    exact w4
/-- draw(well, e) -/
theorem ew_draw {i : Nat} {E : XK} (hσ : σ[i]? = some (some (.ref a))) (h : EvW a d te σ H P) (hP : ∀ v, P v → ∃ m : Int, v = .int m ∧ 0 < m ∧ m < 2 ^ 8000) :
    EvW a (d + 1) (tCall (sp_dr K) [] E (tCons (tVar i) (tCons te tNil))) σ H (fun v => ∃ m r : Int, P (.int m) ∧ v = .int r ∧ 0 ≤ r ∧ r < m) := fun n H1 b w l Q q => by
  refine ⟨.ref a, hσ, ?_⟩
  refine h n H1 b w (by omega) _ fun x H2 b2 w2 p => ?_
  obtain ⟨m, rfl, h0, h1⟩ := hP x p
  refine ⟨a, n + d, m, rfl, w2, by omega, h0, h1, fun r H3 b3 w3 r0 r1 => q _ H3 (b2.trans b3) ?_ ⟨m, r, p, rfl, r0, r1⟩⟩
  exact w3
/-- draw(well, m) -/
theorem ew_drawC {i : Nat} {E : XK} {m : Int} (hσ : σ[i]? = some (some (.ref a))) (h : Ev te σ (hid a H) (.int m)) (h0 : 0 < m) (h1 : m < 2 ^ 8000) :
    EvW a 1 (tCall (sp_dr K) [] E (tCons (tVar i) (tCons te tNil))) σ H (fun v => ∃ r : Int, v = .int r ∧ 0 ≤ r ∧ r < m) :=
  (ew_draw hσ (ew_pure (P := fun v => v = .int m) h rfl) fun v e => ⟨m, e, h0, h1⟩).mono fun v ⟨m', r, e, ev, r0, r1⟩ => by
    cases e
    exact ⟨r, ev, r0, r1⟩
/-- [..][e] with the list made ahead -/
theorem ew_ix {xs : List V} (hl : EvL tl σ (hid a H) xs) (hi : EvW a d ti σ H P) (hP : ∀ v, P v → ∃ (i : Int) (x : V), v = .int i ∧ atI xs i = some x ∧ P1 x) : EvW a d (tOp (rIxL K) tl ti) σ H P1 := fun n H1 b w l Q q =>
  hl H1 (ex_hid b) _ fun p H2 hp e2 h2 => hi n H2 (b.trans (But.ex e2)) (w.ex e2) l _ fun v H3 b3 w3 pv => by
    obtain ⟨i, x, rfl, hx, px⟩ := hP v pv
    exact ⟨p, xs, i, x, rfl, rfl, sq_of (b3 p _ (w.ne hp) h2), hx, q x H3 ((But.ex e2).trans b3) w3 px⟩
/-- an own value's wish: e + e' of ints -/
theorem ew_add {P1 P2 P : Int → Prop} (h1 : EvW a d1 ta σ H (fun v => ∃ r, v = .int r ∧ P1 r)) (h2 : EvW a d2 tb σ H (fun v => ∃ r, v = .int r ∧ P2 r)) (h : ∀ x y, P1 x → P2 y → P (x + y)) :
    EvW a (d1 + d2) (tOp (rI0 fun i j => .int (i + j)) ta tb) σ H (fun v => ∃ r, v = .int r ∧ P r) :=
  ew_op h1 h2 fun x y ⟨i, ei, p⟩ ⟨j, ej, p'⟩ => ⟨.int (i + j), fun H => by
    rw [ei, ej]
    exact rv_I0, i + j, rfl, h i j p p'⟩
theorem ew_c {i : Int} {P : Int → Prop} (p : P i) : EvW a 0 (tC (.int i)) σ H (fun v => ∃ r, v = .int r ∧ P r) := ew_pure ev_c ⟨i, rfl, p⟩
theorem ew_v {j : Nat} {i : Int} {P : Int → Prop} (h : σ[j]? = some (some (.int i))) (p : P i) : EvW a 0 (tVar j) σ H (fun v => ∃ r, v = .int r ∧ P r) := ew_pure (ev_var h) ⟨i, rfl, p⟩
/-! statements -/
variable {D : Ends} {tu tw tz : TS} {n : Nat}
theorem sw_asg {i : Nat} (h : EvW a d te σ H P) (w : Well H a n) (l : n + d ≤ 2 ^ 50) (k : ∀ v H1, But a H H1 → Well H1 a (n + d) → P v → D.nx (σ.set i (some v)) H1) : tAsg te (gName i) D σ H :=
  h n H (But.refl a H) w l _ fun v H2 b2 w2 p => k v H2 b2 w2 p
theorem qw_asg {i : Nat} (h : EvW a d te σ H P) (w : Well H a n) (l : n + d ≤ 2 ^ 50) (k : ∀ v H1, But a H H1 → Well H1 a (n + d) → P v → tz D (σ.set i (some v)) H1) : tSeq (tAsg te (gName i)) tz D σ H :=
  sw_asg (D := { D with nx := tz D }) h w l k
theorem qw_if {te : TE} (h : EvW a d te σ H (fun v => ∃ b, v = .bl b)) (w : Well H a n) (l : n + d ≤ 2 ^ 50) (k1 : ∀ H1, But a H H1 → Well H1 a (n + d) → tu { D with nx := tz D } σ H1)
    (k2 : ∀ H1, But a H H1 → Well H1 a (n + d) → tw { D with nx := tz D } σ H1) : tSeq (tIfS (tTest te) tu tw) tz D σ H :=
  h n H (But.refl a H) w l _ fun v H2 b2 w2 ⟨b, e⟩ => ⟨b, e, by
    cases b with
    | true => exact iteT (k1 H2 b2 w2)
    | false => exact iteF (k2 H2 b2 w2)⟩
/-- a test draw(..) == c -/
theorem ew_eq {P1 P2 : Int → Prop} (h1 : EvW a d1 ta σ H (fun v => ∃ r, v = .int r ∧ P1 r)) (h2 : EvW a d2 tb σ H (fun v => ∃ r, v = .int r ∧ P2 r)) : EvW a (d1 + d2) (tOp rEq ta tb) σ H (fun v => ∃ b, v = .bl b) :=
  ew_op h1 h2 fun x y ⟨i, ei, p⟩ ⟨j, ej, p'⟩ => ⟨.bl (decide (x = y)), fun H => by
    rw [ei, ej]
    exact rv_eq rfl, _, rfl⟩
end
end Bk
namespace Bk
open PySem PySem.Spec PyProof.Rows L2 Evl

section
variable {K : PySem.W.Frag} {H : Hp}
theorem rv_b {g : Int → Int → Bool} {i j : Int} {b : Bool} (h : g i j = b) : RV (rI0 fun i j => .bl (g i j)) (.int i) (.int j) H (.bl b) := h ▸ rv_I0 (g := fun i j => .bl (g i j))
theorem p10_pos (n : Nat) : 0 < (10 : Int) ^ n := Int.pow_pos (by decide)
theorem cpw {i j : Int} (h : i.natAbs < 2 ^ 250) (h0 : 0 ≤ j) (h1 : j ≤ 64) : CPowW i j := ⟨h0, h1, Nat.lt_of_lt_of_le h (Nat.pow_le_pow_right (by decide) (by decide))⟩
theorem cdw {j : Int} (i : Int) (h : 0 < j) (hb : j.natAbs < 2 ^ 250) : CDivW i j := wide_div h hb (by decide) (by decide)
theorem cdw8 {j : Int} (i : Int) (h : 0 < j) (hb : j < 2 ^ 8000) : CDivW i j := by
  refine wide_div (b := 8000) h ?_ (by decide) (by decide)
  have e : ((j.natAbs : Nat) : Int) = j := Int.natAbs_of_nonneg (by omega)
  have : ((j.natAbs : Nat) : Int) < ((2 ^ 8000 : Nat) : Int) := by
    rw [e, Int.natCast_pow]
    exact hb
  exact Int.ofNat_lt.mp this
theorem lt8000 {m : Int} (h : m < 2 ^ 250) : m < 2 ^ 8000 := by
  have a : ((2 : Nat) ^ 250) ≤ 2 ^ 8000 := Nat.pow_le_pow_right (by decide) (by decide)
  have b : (((2 : Nat) ^ 250 : Nat) : Int) ≤ (((2 : Nat) ^ 8000 : Nat) : Int) := Int.ofNat_le.mpr a
  rw [Int.natCast_pow, Int.natCast_pow] at b
  exact Int.lt_of_lt_of_le h b
/-- left factor small -/
theorem cml {i j : Int} (h : -(2 ^ 64) < i ∧ i < 2 ^ 64) : CMul i j := .inl h
theorem vi_inv {ns : List Int} {i : Nat} {x : V} (h : (vi ns)[i]? = some x) : ∃ m, x = .int m ∧ ns[i]? = some m ∧ ns.getD i 0 = m := by
  rw [List.getElem?_map] at h
  cases g : ns[i]? with
  | none =>
    rw [g] at h
    cases h
  | some m =>
    rw [g] at h
    cases h
    exact ⟨m, rfl, rfl, by rw [List.getD_eq_getElem?_getD, g]; rfl⟩
theorem given_all (n : Nat) (v : Nat → V) : given n (fun _ => true) v = (List.range n).map v := by
  unfold given
  rw [List.filter_eq_self.mpr (fun _ _ => rfl)]
theorem given_ints (n : Nat) (f : Nat → Int) : given n (fun _ => true) (fun i => V.int (f i)) = vi ((List.range n).map f) := by
  rw [given_all]
  unfold vi
  rw [List.map_map]
  rfl
variable {σ : L2.St} {ta tb te : TE} {t u : TT} {D : Ends} {tu tz : TS}
theorem el_is {xs ys : List V} (h : EvL te σ H xs) (e : xs = ys) : EvL te σ H ys := e ▸ h
theorem eu_is {xs ys : List V} (h : EvU te σ H xs) (e : xs = ys) : EvU te σ H ys := e ▸ h
theorem el_lcR2 {ta : TA} {j : Nat} {vs : List Nat} {lo n : Int} (f : Nat → Bool) (v : Nat → V) (h : EvA ta σ H [.int lo, .int n]) (hn : 0 ≤ lo ∧ lo ≤ 40000 ∧ -40000 ≤ n ∧ n ≤ 40000) (hw : ∀ x, wipe ((wipe σ vs).set j (some x)) vs = wipe σ vs)
    (ht : ∀ (i : Nat) H1, Ex H H1 → lo + (i : Int) < n → EvT t ((wipe σ vs).set j (some (.int (lo + (i : Int))))) H1 (f i)) (he : ∀ (i : Nat) H1, Ex H H1 → lo + (i : Int) < n → f i = true → Ev te ((wipe σ vs).set j (some (.int (lo + (i : Int))))) H1 (v i)) :
    EvL (tLc (iRng2 ta) (gName j) t te vs) σ H (given (n - lo).toNat f v) := fun H0 e Q q => h H0 e _ fun H1 e1 => ⟨lo, n, rfl, ⟨by omega, by omega, by omega, by omega⟩, fun Dl hD =>
  lc_range (lo := lo) (n := (n - lo).toNat) (Cw H1 f v Dl) ⟨hD, Ex.new hD, upd_same⟩ (fun i H' hi p =>
    ⟨hw _, cw_turn p (by omega) (ht i H1 (e.trans e1) (by omega)) (fun hf => he i H1 (e.trans e1) (by omega) hf)⟩) (fun H' p => q Dl H' (fresh_back e1 p.1) (e1.trans p.2.1) p.2.2)⟩
theorem et_yes : EvT tYes σ H true := fun H1 _ Q q => q H1 (Ex.refl H1)
/-- xs.extend(ys), ys new -/
theorem s_ext {l : Addr} {xs ys : List V} (hl : H l = some (.lst xs)) (ha : Ev ta σ H (.ref l)) (h : EvL te σ H ys) (hz : xs.length + ys.length ≤ 100000) (k : ∀ H1, Ex H H1 → D.nx σ (upd H1 l (.lst (xs ++ ys)))) :
    tDrop (tBM K "list" rExtend ta (tCons te tNil)) D σ H := ha H (Ex.refl H) _ fun H1 e1 =>
  ⟨Or.inl ⟨rfl, xs, sq_of (e1 l _ hl)⟩, h H1 e1 _ fun p H2 hp e2 h2 => ⟨l, p, xs, ys, rfl, rfl, e2 l _ (e1 l _ hl), h2, sz_of hz, k H2 (e1.trans e2)⟩⟩
theorem q_ext {l : Addr} {xs ys : List V} (hl : H l = some (.lst xs)) (ha : Ev ta σ H (.ref l)) (h : EvL te σ H ys) (hz : xs.length + ys.length ≤ 100000) (k : ∀ H1, Ex H H1 → tz D σ (upd H1 l (.lst (xs ++ ys)))) :
    tSeq (tDrop (tBM K "list" rExtend ta (tCons te tNil))) tz D σ H := s_ext (D := { D with nx := tz D }) hl ha h hz k
theorem q_forEnC {a : Addr} {xs : List V} {tl : TE} {c : Int} {i j : Nat} (h : Ev tl σ H (.ref a)) (hx : SqL K H a xs) (Pv : Nat → L2.St → Hp → Prop) (h0 : ∀ H1, Ex H H1 → Pv 0 σ H1) (hl : ∀ n σ' H', n ≤ xs.length → Pv n σ' H' → SqL K H' a xs)
    (hs : ∀ n x σ' H', xs[n]? = some x → Pv n σ' H' → ∀ H1, Ex H' H1 → tu { D with nx := Pv (n + 1), ct := Pv (n + 1), bk := tz D } ((σ'.set i (some (.int (c + (n : Nat))))).set j (some x)) H1) (hd : ∀ σ' H', Pv xs.length σ' H' → tz D σ' H') :
    tSeq (tFor (iEnumC K (tCons tl tNil) c) (g2 K i j) tu) tz D σ H := s_forEnC (D := { D with nx := tz D }) h hx Pv h0 hl hs hd

/-! ### more with a well -/
theorem ex_but {p : Addr} {H H1 H2 : Hp} (e : Ex H H1) (n : H p = none) (b : But p H1 H2) : Ex H H2 := fun c o h => b c o (ne_of_none h n) (e c o h)
theorem but_fresh {a p : Addr} {H H1 : Hp} {n : Nat} (b : But a H H1) (w : Well H a n) (w1 : Well H1 a n) (h : H1 p = none) : H p = none := by
  cases q : H p with
  | none => rfl
  | some o =>
    rw [b p o (w1.ne h) q] at h
    cases h
theorem but_free {a p : Addr} {H H1 : Hp} {m : Nat} (b : But a H H1) (w1 : Well H1 a m) (h : H1 p = none) : H p = none := b.free (w1.ne h) h
variable {a : Addr} {d d1 d2 n : Nat} {P P1 P2 : V → Prop} {ti tw : TE} {ts : TS}
theorem ew_min2 {P1 P2 P : Int → Prop} (h1 : EvW a d1 ta σ H (fun v => ∃ r, v = .int r ∧ P1 r)) (h2 : EvW a d2 tb σ H (fun v => ∃ r, v = .int r ∧ P2 r)) (h : ∀ x y, P1 x → P2 y → P (if y < x then y else x)) :
    EvW a (d1 + d2) (tCB (fun xs H Q => ∃ i j, xs = [.int i, .int j] ∧ Q (.int (if j < i then j else i)) H) (tCons ta (tCons tb tNil))) σ H (fun v => ∃ r, v = .int r ∧ P r) := fun n H1 b w l Q q =>
  h1 n H1 b w (by omega) _ fun x H2 b2 w2 ⟨i, ei, pi⟩ => h2 (n + d1) H2 (b.trans b2) w2 (by omega) _ fun y H3 b3 w3 ⟨j, ej, pj⟩ => by
    rw [Nat.add_assoc] at w3
    subst ei ej
    exact ⟨i, j, rfl, q _ H3 (b2.trans b3) w3 ⟨_, rfl, h i j pi pj⟩⟩
theorem sw_forR1 {P : Int → Prop} {j : Nat} (h : EvW a d te σ H (fun v => ∃ r, v = .int r ∧ P r)) (hP : ∀ r, P r → 0 ≤ r ∧ r ≤ 100000) (w : Well H a n) (l : n + d ≤ 2 ^ 50) (Pv : Nat → L2.St → Hp → Prop)
    (h0 : ∀ r H1, P r → But a H H1 → Well H1 a (n + d) → Pv 0 σ H1)
    (hs : ∀ r (i : Nat) σ' H', P r → (i : Int) < r → Pv i σ' H' → tu { D with nx := Pv (i + 1), ct := Pv (i + 1), bk := D.nx } (σ'.set j (some (.int (i : Int)))) H')
    (hd : ∀ r σ' H', P r → Pv r.toNat σ' H' → D.nx σ' H') : tFor (iRng1 (tCons te tNil)) (gName j) tu D σ H :=
  h n H (But.refl a H) w l _ fun v H2 b2 w2 ⟨r, er, pr⟩ => by
    subst er
    obtain ⟨r0, r1⟩ := hP r pr
    refine ⟨r, rfl, by omega, by omega, for_range (lo := 0) (n := r.toNat) Pv (h0 r H2 pr b2 w2) (fun i σ' H' hi p => ?_) (fun σ' H' p => hd r σ' H' pr p)⟩
    have e0 : (0 : Int) + (i : Int) = (i : Int) := Int.zero_add _
    show tu { D with nx := Pv (i + 1), ct := Pv (i + 1), bk := D.nx } (σ'.set j (some (.int ((0 : Int) + (i : Int))))) H'
    rw [e0]
    exact hs r i σ' H' pr (by omega) p
theorem qw_forR1 {P : Int → Prop} {j : Nat} (h : EvW a d te σ H (fun v => ∃ r, v = .int r ∧ P r)) (hP : ∀ r, P r → 0 ≤ r ∧ r ≤ 100000) (w : Well H a n) (l : n + d ≤ 2 ^ 50) (Pv : Nat → L2.St → Hp → Prop)
    (h0 : ∀ r H1, P r → But a H H1 → Well H1 a (n + d) → Pv 0 σ H1)
    (hs : ∀ r (i : Nat) σ' H', P r → (i : Int) < r → Pv i σ' H' → tu { D with nx := Pv (i + 1), ct := Pv (i + 1), bk := tz D } (σ'.set j (some (.int (i : Int)))) H')
    (hd : ∀ r σ' H', P r → Pv r.toNat σ' H' → tz D σ' H') : tSeq (tFor (iRng1 (tCons te tNil)) (gName j) tu) tz D σ H :=
  sw_forR1 (D := { D with nx := tz D }) h hP w l Pv h0 hs hd
/-- if draw.. or pure: .. -/
theorem qw_ifOr {b : Bool} (h : EvW a d te σ H (fun v => ∃ b, v = .bl b)) (hb : ∀ H1, But a H H1 → EvT u σ H1 b) (w : Well H a n) (l : n + d ≤ 2 ^ 50)
    (k1 : ∀ H1, But a H H1 → Well H1 a (n + d) → tu { D with nx := tz D } σ H1) (k2 : b = false → ∀ H1, But a H H1 → Well H1 a (n + d) → ts { D with nx := tz D } σ H1) : tSeq (tIfS (tOr (tTest te) u) tu ts) tz D σ H :=
  h n H (But.refl a H) w l _ fun v H2 b2 w2 ⟨c, e⟩ => ⟨c, e, by
    cases c with
    | true => exact iteT (iteT (k1 H2 b2 w2))
    | false =>
      refine iteF ?_
      refine hb H2 b2 H2 (Ex.refl H2) _ fun H3 e3 => ?_
      cases b with
      | true => exact iteT (k1 H3 (b2.trans (But.ex e3)) (w2.ex e3))
      | false => exact iteF (k2 rfl H3 (b2.trans (But.ex e3)) (w2.ex e3))⟩
theorem cut_take (xs : List V) (m : Nat) : cutV xs none (some (m : Int)) = xs.take m := by
  unfold cutV
  rw [HT.sIx_none, HT.sIx_nat, List.drop_zero, Nat.sub_zero]
  by_cases h : m ≤ xs.length
  · rw [Nat.min_eq_left h]
  · rw [Nat.min_eq_right (by omega), List.take_of_length_le (Nat.le_refl _), List.take_of_length_le (by omega)]
theorem flat_rep (n : Nat) (x : Int) : (List.replicate n [V.int x]).flatten = vi (List.replicate n x) := by
  unfold vi
  rw [List.map_replicate, List.flatten_replicate_singleton]
theorem el_slN {tl th : TO} {xs : List V} {lo hi : Option Int} (h : EvL te σ H xs) (h1 : EvO tl σ H lo) (h2 : EvO th σ H hi) : EvL (tSl (rSlL K) te tl th) σ H (cutV xs lo hi) := fun H1 e _ q =>
  h H1 e _ fun a H2 ha e2 hx => h1 H2 (e.trans e2) _ fun H3 e3 => h2 H3 ((e.trans e2).trans e3) _ fun H4 e4 =>
    ⟨a, xs, rfl, sq_of (e4 _ _ (e3 _ _ hx)), fun p hp => q p _ (fresh_back ((e2.trans e3).trans e4) hp) (((e2.trans e3).trans e4).trans (Ex.new hp)) upd_same⟩
theorem sw_asgL {P : List V → Prop} {i : Nat} (h : EvWL a d te σ H P) (w : Well H a n) (l : n + d ≤ 2 ^ 50) (k : ∀ p xs H1, H p = none → But a H H1 → Well H1 a (n + d) → H1 p = some (.lst xs) → P xs → D.nx (σ.set i (some (.ref p))) H1) : tAsg te (gName i) D σ H :=
  h n H (But.refl a H) w l _ fun p xs H2 hp b2 w2 h2 p => k _ xs H2 hp b2 w2 h2 p
theorem qw_asgL {P : List V → Prop} {i : Nat} (h : EvWL a d te σ H P) (w : Well H a n) (l : n + d ≤ 2 ^ 50) (k : ∀ p xs H1, H p = none → But a H H1 → Well H1 a (n + d) → H1 p = some (.lst xs) → P xs → tz D (σ.set i (some (.ref p))) H1) : tSeq (tAsg te (gName i)) tz D σ H :=
  sw_asgL (D := { D with nx := tz D }) h w l k
/-- x, y = a, b -/
theorem q_parLU {i j : Nat} {xs ys : List V} (h1 : EvL ta σ H xs) (h2 : ∀ p H1, H p = none → Ex H H1 → H1 p = some (.lst xs) → EvU tb σ H1 ys) (k : ∀ p q H1, H p = none → H q = none → p ≠ q → Ex H H1 → H1 p = some (.lst xs) → H1 q = some (.tup ys) → tz D ((σ.set i (some (.ref p))).set j (some (.ref q))) H1) :
    tSeq (tPar i j (tCons ta (tCons tb tNil))) tz D σ H :=
  h1 H (Ex.refl H) _ fun p H2 hp e2 g2 => h2 p H2 hp e2 g2 H2 (Ex.refl H2) _ fun q H3 hq e3 g3 => ⟨_, _, rfl, k p q H3 hp (fresh_back e2 hq) (ne_of_none g2 hq) (e2.trans e3) (e3 _ _ g2) g3⟩
theorem q_parLL {i j : Nat} {xs ys : List V} (h1 : EvL ta σ H xs) (h2 : ∀ p H1, H p = none → Ex H H1 → H1 p = some (.lst xs) → EvL tb σ H1 ys) (k : ∀ p q H1, H p = none → H q = none → p ≠ q → Ex H H1 → H1 p = some (.lst xs) → H1 q = some (.lst ys) → tz D ((σ.set i (some (.ref p))).set j (some (.ref q))) H1) :
    tSeq (tPar i j (tCons ta (tCons tb tNil))) tz D σ H :=
  h1 H (Ex.refl H) _ fun p H2 hp e2 g2 => h2 p H2 hp e2 g2 H2 (Ex.refl H2) _ fun q H3 hq e3 g3 => ⟨_, _, rfl, k p q H3 hp (fresh_back e2 hq) (ne_of_none g2 hq) (e2.trans e3) (e3 _ _ g2) g3⟩
theorem q_parVV {i j : Nat} {x y : V} (h1 : Ev ta σ H x) (h2 : Ev tb σ H y) (k : ∀ H1, Ex H H1 → tz D ((σ.set i (some x)).set j (some y)) H1) :
    tSeq (tPar i j (tCons ta (tCons tb tNil))) tz D σ H :=
  h1 H (Ex.refl H) _ fun H2 e2 => h2 H2 e2 _ fun H3 e3 => ⟨_, _, rfl, k H3 (e2.trans e3)⟩
theorem q_parLV {i j : Nat} {xs : List V} {y : V} (h1 : EvL ta σ H xs) (h2 : ∀ p H1, H p = none → Ex H H1 → H1 p = some (.lst xs) → Ev tb σ H1 y) (k : ∀ p H1, H p = none → Ex H H1 → H1 p = some (.lst xs) → tz D ((σ.set i (some (.ref p))).set j (some y)) H1) :
    tSeq (tPar i j (tCons ta (tCons tb tNil))) tz D σ H :=
  h1 H (Ex.refl H) _ fun p H2 hp e2 g2 => h2 p H2 hp e2 g2 H2 (Ex.refl H2) _ fun H3 e3 => ⟨_, _, rfl, k p H3 hp (e2.trans e3) (e3 _ _ g2)⟩
theorem q_parVL {i j : Nat} {xs : List V} {y : V} (h1 : Ev ta σ H y) (h2 : EvL tb σ H xs) (k : ∀ p H1, H p = none → Ex H H1 → H1 p = some (.lst xs) → tz D ((σ.set i (some y)).set j (some (.ref p))) H1) :
    tSeq (tPar i j (tCons ta (tCons tb tNil))) tz D σ H :=
  h1 H (Ex.refl H) _ fun H2 e2 => h2 H2 e2 _ fun p H3 hp e3 g3 => ⟨_, _, rfl, k p H3 (fresh_back e2 hp) (e2.trans e3) g3⟩
end
end Bk
/-! ### sorted of a tuple of ints -/
namespace Bk
open PySem PySem.Spec PyProof.Rows L2 Evl
section
variable {prog : Program} {w : World} {A : Around} {E : Value → Shared → Prop} {s : Shared}
theorem collect_tup {l : Addr} {vs : List Value} {Q : List Value → Shared → Prop} (ht : IsTup s.heap l vs.toArray) (hz : vs.length ≤ sizeLine)
    (h : Q vs { s with heap := (s.heap.push (seqObj "list" #[] 0)).update s.heap.objs.size (Obj.mapSeq (· ++ vs.toArray)) }) : wpAny (model prog w) A (collect (.ref l)) Q E s := by
  obtain ⟨o, ho, hc, n, hd⟩ := ht
  unfold collect
  refine wpAny_bind (wpAny_runValue (codeAny_builtin entry_proto_collect' ?_))
  show wpAny _ _ (newList [] >>= fun r => again (.builtin "list.__iadd__" ⟨[r, .ref l], []⟩)) _ _ s
  refine wpAny_bind (wpAny_newList (wpAny_pure ⟨Code.quiet_builtin _ (by decide +kernel), codeAny_builtin entry_list_iadd' ?_⟩))
  show wpAny _ _ (Builtin.List.listExtendWith (.ref s.heap.objs.size) (.ref l) (.ref s.heap.objs.size)) _ _ { s with heap := s.heap.push (seqObj "list" #[] 0) }
  unfold Builtin.List.listExtendWith
  have ho1 : (s.heap.push (seqObj "list" #[] 0)).get? l = some o := Heap.get?_push_of_some _ ho
  refine wpAny_bind (wpAny_typeOf (T := "tuple") ⟨o, ho1, hc⟩ ?_)
  have e1 : (Value.type "tuple" == Value.type "tuple") = true := by rfl
  rw [if_pos (by rw [e1]; simp)]
  refine wpAny_bind (listItems_at ho1 hd ?_)
  refine wpAny_bind (listItems_at (xs := #[]) (n := 0) (Heap.get?_push_size _ rfl) rfl ?_)
  rw [if_neg (by simp)]
  refine wpAny_bind (listUpdate_at (xs := #[]) (n := 0) (Heap.get?_push_size _ rfl) rfl ?_ (Nat.zero_le _) (by
    show (#[] ++ vs.toArray).size ≤ sizeLine + 1
    simp only [Array.size_append, List.size_toArray, List.length_nil]
    omega))
  refine wpAny_pure ?_
  refine wpAny_bind (wpAny_load (get?_update_seq (Heap.get?_push_size _ rfl) _) ?_)
  have e2 : ((#[] : Array Value) ++ vs.toArray).toList = vs := by simp
  show wpAny _ _ (pure ((#[] : Array Value) ++ vs.toArray).toList) Q E _
  rw [e2]
  exact wpAny_pure h
/-- behind the collecting: the new list is sorted -/
theorem sorted_tup {l : Addr} {vs : List Value} {ns : List Int} {Q : Value → Shared → Prop} (ht : IsTup s.heap l vs.toArray) (hz : vs.length ≤ sizeLine) (hI : IntsAre vs ns)
    (h : ∀ out : List Value, IntsAre out (out.map SrtO.iv) → (out.map SrtO.iv).Perm ns → (out.map SrtO.iv).Pairwise (· ≤ ·) → Q (.ref (s.heap.objs.size + 1)) { s with heap := sortedAll s.heap vs out.toArray }) :
    wpAny (model prog w) A (call (.builtin "sorted") [.ref l]) Q E s := by
  refine Calls.call_function_entry kind_sorted plain_sorted entry_sorted (args_sorted1 _) ?_
  unfold Builtin.«sorted»
  refine wpAny_bind (m := checkCount "sorted" 1 1 _) (wpAny_pure ?_)
  refine wpAny_bind (collect_tup ht hz ?_)
  refine wpAny_bind (wpAny_newList ?_ hz)
  have es : ((s.heap.push (seqObj "list" #[] 0)).update s.heap.objs.size (Obj.mapSeq (· ++ vs.toArray))).objs.size = s.heap.objs.size + 1 := by
    rw [Heap.size_update, size_push']
  have at1 : (((s.heap.push (seqObj "list" #[] 0)).update s.heap.objs.size (Obj.mapSeq (· ++ vs.toArray))).push (seqObj "list" vs.toArray 0)).get? (s.heap.objs.size + 1) = some (seqObj "list" vs.toArray 0) := by
    rw [← es]
    exact Heap.get?_push_size _ rfl
  show wpAny _ _ _ _ _ { s with heap := ((s.heap.push (seqObj "list" #[] 0)).update s.heap.objs.size (Obj.mapSeq (· ++ vs.toArray))).push (seqObj "list" vs.toArray 0) }
  rw [es]
  refine wpAny_bind (wpAny_holding (wpAny_call_entry slot_list_sort ⟨_, at1, rfl⟩ entry_list_sort (SrtO.list_sort_ord SrtO.swo_int at1 hz (fun h2 => SrtO.ints_sortable hI h2) fun out hs hb => ⟨_, rfl, ?_⟩) (args_list_sort _)))
  obtain ⟨k1, k2, k3⟩ := SrtO.ints_out hI hs hb
  exact wpAny_pure ⟨_, rfl, h out k1 k2 k3⟩
end
def rSortedT (K : PySem.W.Frag) : List V → Hp → VK → Prop := fun vs H Q => ∃ (a : Addr) (ns : List Int), vs = [V.ref a] ∧ SqT K H a (vi ns) ∧
  ∀ (ns' : List Int) (p : Addr), ns'.Perm ns → ns'.Pairwise (· ≤ ·) → H p = none → Q (.ref p) (upd H p (.lst (vi ns')))
theorem cr_sortedTup {X : Cx} : CallR X (.builtin "sorted") (rSortedT X.K) := by
  intro pins s σ H vs us Q I r h
  obtain ⟨a, ns, rfl, hs, q⟩ := h
  obtain ⟨its, rv, ht, hz⟩ := I.tuple hs
  rw [Vals.ref1 r]
  have hi := rv.ints
  refine sorted_tup ht (by rw [← rv.length]; exact hz) hi ?_
  intro out k1 k2 k3
  obtain ⟨ep, he'⟩ := PyProof.Rows.sortedAll_at s.heap its out.toArray
  have hlen : (vi (out.map SrtO.iv)).length ≤ sizeLine := by
    rw [List.length_map] at hz
    rw [List.length_map, k2.length_eq]
    exact hz
  exact ⟨.ref _, upd H (s.heap.objs.size + 1) (.lst (vi (out.map SrtO.iv))), I.laid (t' := s.toks) (fun _ _ => PyProof.Rows.sortedAll_old) (Nat.le_succ _) ⟨hlen, out, ep, vals_of_ints k1, he'⟩, rfl, q _ _ k2 k3 (I.hok.fresh (Nat.le_succ _))⟩

/-- the one sorted list -/
theorem sorted_unique {ns ms : List Int} (hp : ns.Perm ms) (h1 : ns.Pairwise (· ≤ ·)) (h2 : ms.Pairwise (· ≤ ·)) : ns = ms := by
  induction ns generalizing ms with
  | nil => exact (List.nil_perm.mp hp).symm
  | cons a r ih =>
    cases ms with
    | nil => exact absurd hp.length_eq (by simp)
    | cons b q =>
      have ha := List.pairwise_cons.mp h1
      have hb := List.pairwise_cons.mp h2
      have e : a = b := by
        have m1 : a ∈ b :: q := hp.mem_iff.mp List.mem_cons_self
        have m2 : b ∈ a :: r := hp.mem_iff.mpr List.mem_cons_self
        have l1 : b ≤ a := by
          rcases List.mem_cons.mp m1 with z | z
          · omega
          · exact hb.1 a z
        have l2 : a ≤ b := by
          rcases List.mem_cons.mp m2 with z | z
          · omega
          · exact ha.1 b z
        omega
      subst e
      rw [ih (List.Perm.cons_inv hp) ha.2 hb.2]

section
variable {K : PySem.W.Frag} {σ : L2.St} {H H' : Hp} {ta tb te tl : TE} {t u : TT} {x y z v : V} {D : Ends} {tu tz : TS}
theorem el_sortedT {p : Addr} {ns ms : List Int} (ha : Ev ta σ H (.ref p)) (h : SqT K H p (vi ns)) (hp : ns.Perm ms) (hm : ms.Pairwise (· ≤ ·)) : EvL (tCB (rSortedT K) (tCons ta tNil)) σ H (vi ms) := fun H1 e Q q =>
  ha H1 e _ fun H2 e2 => ⟨p, ns, rfl, ex_t (e.trans e2) h, fun ns' l k1 k2 hl => by
    rw [sorted_unique (k1.trans hp) k2 hm]
    exact q l _ (fresh_back e2 hl) (e2.trans (Ex.new hl)) upd_same⟩
theorem el_sortedN {ns ms : List Int} (ha : EvL ta σ H (vi ns)) (hp : ns.Perm ms) (hm : ms.Pairwise (· ≤ ·)) : EvL (tCB (rSortedI K) (tCons ta tNil)) σ H (vi ms) := fun H1 e Q q =>
  ha H1 e _ fun p H2 hp2 e2 h2 => ⟨p, ns, rfl, sq_of h2, fun ns' l k1 k2 hl => by
    rw [sorted_unique (k1.trans hp) k2 hm]
    exact q l _ (fresh_back e2 hl) (e2.trans (Ex.new hl)) upd_same⟩
/-- all(..) of a new list of truths -/
theorem ev_allN {bs : List Bool} (ha : EvL ta σ H (bs.map V.bl)) : Ev (tCB (rAll K) (tCons ta tNil)) σ H (.bl (bs.all id)) := fun H1 e Q q =>
  ha H1 e _ fun p H2 hp2 e2 h2 => ⟨p, bs, rfl, sq_of h2, q H2 e2⟩
/-- a comprehension over a tuple -/
theorem el_lcT {a : Addr} {xs : List V} {j : Nat} {vs : List Nat} (f : Nat → Bool) (v : Nat → V) (h : Ev tl σ H (.ref a)) (hx : SqT K H a xs) (hz : xs.length ≤ 40000) (hw : ∀ x, wipe ((wipe σ vs).set j (some x)) vs = wipe σ vs)
    (ht : ∀ (i : Nat) (x : V) H1, Ex H H1 → xs[i]? = some x → EvT t ((wipe σ vs).set j (some x)) H1 (f i)) (he : ∀ (i : Nat) (x : V) H1, Ex H H1 → xs[i]? = some x → f i = true → Ev te ((wipe σ vs).set j (some x)) H1 (v i)) :
    EvL (tLc (iTup K tl) (gName j) t te vs) σ H (given xs.length f v) := fun H0 e Q q => h H0 e _ fun H1 e1 => ⟨a, rfl, ⟨xs, ex_t (e.trans e1) hx⟩, fun Dl hD =>
  lc_tup (xs := xs) (Cw H1 f v Dl) ⟨hD, Ex.new hD, upd_same⟩ (fun i H' _ p => ex_t ((e.trans e1).trans p.2.1) hx) (fun i x H' hi p => ⟨hw x, cw_turn p (by have := (List.getElem?_eq_some_iff.mp hi).1; omega) (ht i x H1 (e.trans e1) hi) (fun hf => he i x H1 (e.trans e1) hi hf)⟩)
    (fun H' p => q Dl H' (fresh_back e1 p.1) (e1.trans p.2.1) p.2.2)⟩
theorem rv_neLN {p q : Addr} {ns ms : List Int} (h : H p = some (.lst (vi ns))) (h' : H q = some (.lst (vi ms))) : RV (rNeD K) (.ref p) (.ref q) H (.bl (!decide (ns = ms))) := rv_neL (sq_of h) (sq_of h')
/-- both operands new -/
theorem ev_neLL {ns ms : List Int} (ha : EvL ta σ H (vi ns)) (hb : EvL tb σ H (vi ms)) : Ev (tOp (rNeD K) ta tb) σ H (.bl (!decide (ns = ms))) :=
  ev_opLL ha hb fun p q H1 hp hq _ => rv_neLN hp hq
theorem ev_eqLL {ns ms : List Int} (ha : EvL ta σ H (vi ns)) (hb : EvL tb σ H (vi ms)) : Ev (tOp (rEqD K) ta tb) σ H (.bl (decide (ns = ms))) :=
  ev_opLL ha hb fun p q H1 hp hq _ => rv_eqL (sq_of hp) (sq_of hq)
/-! shuffles -/
def iota (n : Nat) : List Int := (List.range n).map fun i : Nat => (i : Int)
theorem iota_length (n : Nat) : (iota n).length = n := by simp [iota]
theorem iota_sorted (n : Nat) : (iota n).Pairwise (· ≤ ·) := by
  unfold iota
  rw [List.pairwise_map]
  exact (List.pairwise_lt_range (n := n)).imp fun h => by omega
theorem rgV_iota (n : Nat) : rgV 0 (n : Int) = vi (iota n) := by
  unfold rgV iota vi
  rw [List.map_map]
  have e : ((n : Int) - 0).toNat = n := by omega
  rw [e]
  refine List.map_congr_left fun i _ => ?_
  show V.int (0 + (i : Int)) = V.int (i : Int)
  rw [Int.zero_add]
def Shf (ns : List Int) : Prop := 0 < ns.length ∧ ns.length ≤ 300 ∧ ns.Perm (iota ns.length)
theorem Shf.mem {ns : List Int} (h : Shf ns) {n : Int} (m : n ∈ ns) : 0 ≤ n ∧ n < ns.length := by
  have := h.2.2.mem_iff.mp m
  obtain ⟨i, hi, rfl⟩ := List.mem_map.mp this
  have := List.mem_range.mp hi
  omega
theorem Shf.nodup {ns : List Int} (h : Shf ns) : ns.Nodup := by
  refine h.2.2.symm.nodup ?_
  unfold iota
  show List.Pairwise _ _
  rw [List.pairwise_map]
  exact (List.nodup_range (n := ns.length)).imp fun h e => h (by omega)
theorem Shf.wide {ns : List Int} (h : Shf ns) : wide 1900 ns := (wide_lt (k := 20) (by decide) fun n m => by
  have := h.mem m
  have := h.2.1
  omega).mono (by decide)

theorem vi_erase (ns : List Int) (k : Nat) : (vi ns).eraseIdx k = vi (ns.eraseIdx k) := by
  unfold vi
  induction ns generalizing k with
  | nil => rfl
  | cons a r ih =>
    cases k with
    | zero => rfl
    | succ k =>
      show V.int a :: (r.map V.int).eraseIdx k = V.int a :: (r.eraseIdx k).map V.int
      rw [ih]
theorem vi_set (ns : List Int) (k : Nat) (x : Int) : (vi ns).set k (.int x) = vi (ns.set k x) := by
  unfold vi
  rw [List.map_set]
theorem vi_app (ns ms : List Int) : vi ns ++ vi ms = vi (ns ++ ms) := by
  unfold vi
  rw [List.map_append]
/-- a new tuple, with draws -/
def EvWU (a : Addr) (d : Nat) (te : TE) (σ : L2.St) (H : Hp) (P : List V → Prop) : Prop := ∀ (n : Nat) (H1 : Hp), But a H H1 → Well H1 a n → n + d ≤ 2 ^ 50 → ∀ Q : VK, (∀ p xs H2, H1 p = none → But a H1 H2 → Well H2 a (n + d) → H2 p = some (.tup xs) → P xs → Q (.ref p) H2) → te σ H1 Q
variable {a : Addr} {d d1 d2 n : Nat} {P P1 : List V → Prop}
theorem sw_asgU {i : Nat} (h : EvWU a d te σ H P) (w : Well H a n) (l : n + d ≤ 2 ^ 50) (k : ∀ p xs H1, H p = none → But a H H1 → Well H1 a (n + d) → H1 p = some (.tup xs) → P xs → D.nx (σ.set i (some (.ref p))) H1) : tAsg te (gName i) D σ H :=
  h n H (But.refl a H) w l _ fun p xs H2 hp b2 w2 h2 p => k _ xs H2 hp b2 w2 h2 p
theorem qw_asgU {i : Nat} (h : EvWU a d te σ H P) (w : Well H a n) (l : n + d ≤ 2 ^ 50) (k : ∀ p xs H1, H p = none → But a H H1 → Well H1 a (n + d) → H1 p = some (.tup xs) → P xs → tz D (σ.set i (some (.ref p))) H1) : tSeq (tAsg te (gName i)) tz D σ H :=
  sw_asgU (D := { D with nx := tz D }) h w l k
theorem sw_retU (h : EvWU a d te σ H P) (w : Well H a n) (l : n + d ≤ 2 ^ 50) (k : ∀ p xs H1, H p = none → But a H H1 → Well H1 a (n + d) → H1 p = some (.tup xs) → P xs → D.rt (.ref p) H1) : tRet te D σ H :=
  h n H (But.refl a H) w l _ fun p xs H2 hp b2 w2 h2 p => k _ xs H2 hp b2 w2 h2 p
/-! ### [e for x in xs for y in ys] of tuples -/
def flat2 (n m : Nat) (v : Nat → Nat → V) : List V := (List.range n).flatMap fun i => (List.range m).map (v i)
theorem flat2_succ (n m : Nat) (v : Nat → Nat → V) : flat2 (n + 1) m v = flat2 n m v ++ (List.range m).map (v n) := by
  unfold flat2
  rw [List.range_succ, List.flatMap_append, List.flatMap_singleton]
theorem flat2_length (n m : Nat) (v : Nat → Nat → V) : (flat2 n m v).length = n * m := by
  induction n with
  | zero => simp [flat2]
  | succ n ih => rw [flat2_succ, List.length_append, ih, List.length_map, List.length_range, Nat.succ_mul]
theorem yes_go {A B : Hp → Prop} (h : A H) : tYes σ H (fun b H3 => if b = true then A H3 else B H3) := by
  show (if true = true then A H else B H)
  rw [if_pos rfl]
  exact h
theorem el_lc2T {ti1 : TE} {b1 b2 : Addr} {xs ys : List V} {i j : Nat} {vs vs1 : List Nat} (v : Nat → Nat → V) (h : Ev tl σ H (.ref b1)) (hx : SqT K H b1 xs) (hy : SqT K H b2 ys)
    (h1 : ∀ x H1, Ex H H1 → Ev ti1 ((wipe σ vs).set i (some x)) H1 (.ref b2)) (hz : xs.length * ys.length ≤ 40000)
    (hw : ∀ x, wipe ((wipe σ vs).set i (some x)) vs = wipe σ vs) (hw1 : ∀ x y, wipe ((wipe ((wipe σ vs).set i (some x)) vs1).set j (some y)) vs1 = wipe ((wipe σ vs).set i (some x)) vs1)
    (he : ∀ (n m : Nat) (x y : V) H1, Ex H H1 → xs[n]? = some x → ys[m]? = some y → Ev te ((wipe ((wipe σ vs).set i (some x)) vs1).set j (some y)) H1 (v n m)) :
    EvL (tLc2 (iTup K tl) (gName i) tYes (iTup K ti1) (gName j) tYes te vs vs1) σ H (flat2 xs.length ys.length v) := fun H0 e Q q => h H0 e _ fun H1 e1 => by
  have e01 := e.trans e1
  refine ⟨b1, rfl, ⟨xs, ex_t e01 hx⟩, fun Dl hD => ?_⟩
  refine ⟨fun n m H => m = xs.length - n ∧ n ≤ xs.length ∧ Ex H1 H ∧ H Dl = some (.lst (flat2 n ys.length v)), ⟨xs.length, by simp, Nat.zero_le _, Ex.new hD, upd_same⟩, ?_⟩
  rintro n m H ⟨rfl, hn, e2, hd⟩
  have qx := ex_t (e01.trans e2) hx
  by_cases hlt : n < xs.length
  · refine .inr ⟨⟨xs, xs[n], qx, by simp [hlt]⟩, fun H' => Ex H1 H' ∧ H' Dl = some (.lst (flat2 (n + 1) ys.length v)), fun H' p' => ⟨xs.length - (n + 1), by omega, rfl, hlt, p'⟩, ?_⟩
    rintro x H' ⟨rfl, gx⟩
    have hxn := gx xs qx
    refine ⟨hw x, yes_go ?_⟩
    refine h1 x H' (e01.trans e2) H' (Ex.refl H') _ fun H4 e4 => ⟨b2, rfl, ⟨ys, ex_t ((e01.trans e2).trans e4) hy⟩, ?_⟩
    refine ⟨fun k m H => m = ys.length - k ∧ k ≤ ys.length ∧ Ex H1 H ∧ H Dl = some (.lst (flat2 n ys.length v ++ (List.range k).map (v n))), ⟨ys.length, by simp, Nat.zero_le _, e2.trans e4, by rw [e4 _ _ hd]; simp⟩, ?_⟩
    rintro k m H ⟨rfl, hk, e5, hd5⟩
    have qy := ex_t (e01.trans e5) hy
    by_cases hlk : k < ys.length
    · refine .inr ⟨⟨ys, ys[k], qy, by simp [hlk]⟩, fun H' => Ex H1 H' ∧ H' Dl = some (.lst (flat2 n ys.length v ++ (List.range (k + 1)).map (v n))), fun H' p' => ⟨ys.length - (k + 1), by omega, rfl, hlk, p'⟩, ?_⟩
      rintro y H' ⟨rfl, gy⟩
      refine ⟨hw1 x y, yes_go ?_⟩
      refine he n k x y H' (e01.trans e5) hxn (gy ys qy) H' (Ex.refl H') _ fun H6 e6 => ⟨_, e6 _ _ hd5, sz_lt ?_, Ex.mut (e5.trans e6) hD, ?_⟩
      · rw [List.length_append, flat2_length, List.length_map, List.length_range]
        have a1 : (n + 1) * ys.length ≤ xs.length * ys.length := Nat.mul_le_mul_right _ hlt
        rw [Nat.succ_mul] at a1
        omega
      · rw [upd_same, List.range_succ, List.map_append, List.append_assoc]
        rfl
    · have ek : k = ys.length := by omega
      subst ek
      refine .inl ⟨⟨ys, qy, Nat.le_refl _⟩, e5, ?_⟩
      rw [hd5, flat2_succ]
  · have en : n = xs.length := by omega
    subst en
    exact .inl ⟨⟨xs, qx, Nat.le_refl _⟩, q Dl H (fresh_back e1 hD) (e1.trans e2) hd⟩
/-- a new tuple as an argument -/
theorem eu_callU1 {sp : Sp} {xs zs : List V} {E : XK} (h : EvU ta σ H xs) (h2 : ∀ p H1, Ex H H1 → H1 p = some (.tup xs) → Ev tb σ H1 y) (hs : ∀ p H1, Ex H H1 → H1 p = some (.tup xs) → SpU sp [.ref p, y] H1 zs) : EvU (tCall sp [] E (tCons ta (tCons tb tNil))) σ H zs := fun H1 e Q q =>
  h H1 e _ fun p H2 hp e2 g2 => h2 p H2 (e.trans e2) g2 H2 (Ex.refl H2) _ fun H3 e3 => hs p H3 ((e.trans e2).trans e3) (e3 _ _ g2) H3 (Ex.refl H3) Q (fun r H4 hr e4 h4 => q r H4 (fresh_back (e2.trans e3) hr) ((e2.trans e3).trans e4) h4) E
theorem eu_callU2 {sp : Sp} {xs zs : List V} {E : XK} (h : Ev ta σ H x) (h2 : EvU tb σ H xs) (hs : ∀ p H1, Ex H H1 → H1 p = some (.tup xs) → SpU sp [x, .ref p] H1 zs) : EvU (tCall sp [] E (tCons ta (tCons tb tNil))) σ H zs := fun H1 e Q q =>
  h H1 e _ fun H2 e2 => h2 H2 (e.trans e2) _ fun p H3 hp e3 g3 => hs p H3 ((e.trans e2).trans e3) g3 H3 (Ex.refl H3) Q (fun r H4 hr e4 h4 => q r H4 (fresh_back (e2.trans e3) hr) ((e2.trans e3).trans e4) h4) E
end
end Bk
namespace Bk
open PySem PySem.Spec PyProof.Rows L2 Evl
/-! ### where built-in names stand; rules with the written part named -/
theorem bt_len : bootBuiltins "len" = some (.builtin "len") := by decide +kernel
theorem bt_abs : bootBuiltins "abs" = some (.builtin "abs") := by decide +kernel
theorem bt_max : bootBuiltins "max" = some (.builtin "max") := by decide +kernel
theorem bt_min : bootBuiltins "min" = some (.builtin "min") := by decide +kernel
theorem bt_sum : bootBuiltins "sum" = some (.builtin "sum") := by decide +kernel
theorem bt_sorted : bootBuiltins "sorted" = some (.builtin "sorted") := by decide +kernel
theorem bt_all : bootBuiltins "all" = some (.builtin "all") := by decide +kernel
theorem bt_any : bootBuiltins "any" = some (.builtin "any") := by decide +kernel
theorem bt_repr : bootBuiltins "repr" = some (.builtin "repr") := by decide +kernel
theorem bt_isinstance : bootBuiltins "isinstance" = some (.builtin "isinstance") := by decide +kernel
theorem bt_str : bootBuiltins "str" = some (.type "str") := by decide +kernel
section
variable {X : Cx} {K : PySem.W.Frag}
theorem call_lenK (h : X.K = K) : CallR X (.builtin "len") (rLenS K) := by
  subst h
  exact call_len_seq
theorem cr_sumK (h : X.K = K) (hc : X.calm = true) : CallR X (.builtin "sum") (rSum K) := by
  subst h
  exact cr_sum hc
theorem cr_allK (h : X.K = K) (hc : X.calm = true) : CallR X (.builtin "all") (rAll K) := by
  subst h
  exact cr_all hc
theorem call_listK (h : X.K = K) : CallR X (.type "list") (fun xs H Q => ∃ p ys, xs = [.ref p] ∧ (SqL K H p ys ∨ SqT K H p ys) ∧ ∀ l, H l = none → Q (.ref l) (upd H l (.lst ys))) := by
  subst h
  exact call_list_of
theorem call_tupleK (h : X.K = K) : CallR X (.type "tuple") (rTupOf K) := by
  subst h
  exact call_tuple_of
theorem call_reprK (h : X.K = K) (hg : X.A.guards = some []) (hu : X.A.units + 64 < cLine) : CallR X (.builtin "repr") (rRepr K) := by
  subst h
  exact call_repr hg hu
theorem call_isiK' (h : X.K = K) : CallR X (.builtin "isinstance") (rIsi K) := by
  subst h
  exact call_isi
theorem ix_listK (h : X.K = K) : IxR X (rIxL K) := by
  subst h
  exact ix_list
theorem ix_tupK (h : X.K = K) : IxR X (rIxT K) := by
  subst h
  exact ix_tup
theorem sl_listK (h : X.K = K) : SlR X (rSlL K) := by
  subst h
  exact sl_list
theorem op_eqDK (h : X.K = K) (hu : X.A.units + 64 < cLine) : OpR X (compareOp .Eq) (rEqD K) := by
  subst h
  exact op_eqD hu
theorem op_neDK (h : X.K = K) (hu : X.A.units + 64 < cLine) : OpR X (compareOp .NotEq) (rNeD K) := by
  subst h
  exact op_neD hu
theorem pi_listK {tg e : Expr} {te : TE} (h : X.K = K) (he : PE X e te) : PI X tg e (iList K te) := by
  subst h
  exact pi_list he
theorem pi_tupK {tg e : Expr} {te : TE} (h : X.K = K) (he : PE X e te) : PI X tg e (iTup K te) := by
  subst h
  exact pi_tup he
end
end Bk
namespace Bk
open PySem PySem.Spec PyProof.Rows L2 Evl
/-! ### a list of the numbers below its length, each once -/
theorem len_le {n : Nat} : ∀ {l : List Int}, l.Nodup → (∀ x ∈ l, 0 ≤ x ∧ x < n) → l.length ≤ n := by
  induction n with
  | zero =>
    intro l _ h
    cases l with
    | nil => exact Nat.le_refl _
    | cons a r =>
      have := h a List.mem_cons_self
      omega
  | succ n ih =>
    intro l hn h
    have h1 := ih (l := l.erase (n : Int)) (hn.erase _) fun x hx => by
      have m := hn.mem_erase_iff.mp hx
      have := h x m.2
      have := m.1
      omega
    rw [List.length_erase] at h1
    split at h1 <;> omega
theorem perm_iota {n : Nat} : ∀ {l : List Int}, l.Nodup → (∀ x ∈ l, 0 ≤ x ∧ x < n) → l.length = n → l.Perm (iota n) := by
  induction n with
  | zero =>
    intro l _ _ hl
    have : l = [] := List.length_eq_zero_iff.mp hl
    subst this
    exact List.Perm.refl _
  | succ n ih =>
    intro l hn h hl
    have hm : (n : Int) ∈ l := by
      refine Classical.byContradiction fun c => ?_
      have := len_le (n := n) hn fun x hx => by
        have := h x hx
        have : x ≠ (n : Int) := fun e => c (e ▸ hx)
        omega
      omega
    have p := List.perm_cons_erase hm
    have h1 := ih (l := l.erase (n : Int)) (hn.erase _) (fun x hx => by
      have m := hn.mem_erase_iff.mp hx
      have := h x m.2
      have := m.1
      omega) (by
      have := p.length_eq
      rw [List.length_cons] at this
      omega)
    have e : iota (n + 1) = iota n ++ [(n : Int)] := by
      unfold iota
      rw [List.range_succ, List.map_append]
      rfl
    rw [e]
    exact p.trans ((List.Perm.cons _ h1).trans (List.perm_append_comm (l₁ := [(n : Int)]) (l₂ := iota n)))
section
variable {K : PySem.W.Frag} {σ : L2.St} {H H' : Hp} {ta tb te tl ti : TE} {t u : TT} {x y z v : V} {D : Ends} {tu tz : TS} {a : Addr} {d d1 d2 n : Nat} {P P1 P2 : V → Prop}
/-- t + u of tuples -/
theorem eu_catT {p : Addr} {xs ys : List V} (ha : Ev ta σ H (.ref p)) (hb : EvU tb σ H ys) (h : SqT K H p xs) (h0 : xs ≠ []) (h1 : ys ≠ []) (hz : xs.length + ys.length ≤ 100000) : EvU (tOp (rCatT K) ta tb) σ H (xs ++ ys) := fun H1 e Q k =>
  ha H1 e _ fun H2 e2 => hb H2 (e.trans e2) _ fun r H3 hr e3 h3 => ⟨p, r, xs, ys, rfl, rfl, ex_t ((e.trans e2).trans e3) h, st_of h3, h0, sz_of hz, fun c => (h1 c).elim, fun _ l hl => k l _ (fresh_back (e2.trans e3) hl) ((e2.trans e3).trans (Ex.new hl)) upd_same⟩
theorem op_catTK {X : Cx} (h : X.K = K) : OpR X (binaryOp .Add) (rCatT K) := by
  subst h
  exact op_catT
/-! arguments with draws -/
def EvWA (a : Addr) (d : Nat) (te : TA) (σ : L2.St) (H : Hp) (P : List V → Prop) : Prop := ∀ (n : Nat) (H1 : Hp), But a H H1 → Well H1 a n → n + d ≤ 2 ^ 50 → ∀ Q : List V → Hp → Prop, (∀ vs H2, But a H1 H2 → Well H2 a (n + d) → P vs → Q vs H2) → te σ H1 Q
theorem ewa_nil : EvWA a 0 tNil σ H (fun vs => vs = []) := fun n H1 b w l Q q => q [] H1 (But.refl a H1) w rfl
theorem ewa_cons {tr : TA} {PL : List V → Prop} (h : EvW a d1 te σ H P) (hr : EvWA a d2 tr σ H PL) : EvWA a (d1 + d2) (tCons te tr) σ H (fun vs => ∃ x xs, vs = x :: xs ∧ P x ∧ PL xs) := fun n H1 b w l Q q =>
  h n H1 b w (by omega) _ fun x H2 b2 w2 px => hr (n + d1) H2 (b.trans b2) w2 (by omega) _ fun xs H3 b3 w3 pl => q _ H3 (b2.trans b3) (by
    rw [← Nat.add_assoc]
    exact w3) ⟨x, xs, rfl, px, pl⟩
theorem ewl_lst {t : TA} {PL : List V → Prop} (h : EvWA a d t σ H PL) (hz : ∀ xs, PL xs → xs.length ≤ 100000) : EvWL a d (tLst t) σ H PL := fun n H1 b w l Q q =>
  h n H1 b w l _ fun xs H2 b2 w2 pl => ⟨sz_of (hz xs pl), fun p hp => q p xs _ (but_free b2 w2 hp) (b2.trans (But.new hp)) (w2.ex (Ex.new hp)) upd_same pl⟩
theorem ew_ixW {PL : List V → Prop} (hl : EvWL a d1 tl σ H PL) (hi : EvW a d2 ti σ H P) (hP : ∀ xs v, PL xs → P v → ∃ (i : Int) (x : V), v = .int i ∧ atI xs i = some x ∧ P1 x) : EvW a (d1 + d2) (tOp (rIxL K) tl ti) σ H P1 := fun n H1 b w l Q q =>
  hl n H1 b w (by omega) _ fun p xs H2 hp b2 w2 h2 px => hi (n + d1) H2 (b.trans b2) w2 (by omega) _ fun v H3 b3 w3 pv => by
    obtain ⟨i, x, rfl, hx, px'⟩ := hP xs v px pv
    rw [Nat.add_assoc] at w3
    exact ⟨p, xs, i, x, rfl, rfl, sq_of (b3 p _ (w.ne hp) h2), hx, q x H3 (b2.trans b3) w3 px'⟩
theorem ew_weak (h : EvW a d te σ H P) (l : d ≤ d1) : EvW a d1 te σ H P := fun n H1 b w hl Q q => h n H1 b w (by omega) Q fun v H2 b2 w2 p => q v H2 b2 (w2.mono (by omega)) p
theorem ew_if {b : Bool} (ht : EvT t σ (hid a H) b) (h1 : b = true → EvW a d ta σ H P) (h2 : b = false → EvW a d tb σ H P) : EvW a d (tIf t ta tb) σ H P := fun n H1 bt w l Q q =>
  ht H1 (ex_hid bt) _ fun H2 e2 => by
    have q' : ∀ v H3, But a H2 H3 → Well H3 a (n + d) → P v → Q v H3 := fun v H3 b3 w3 p => q v H3 ((But.ex e2).trans b3) w3 p
    cases b with
    | true => exact iteT (h1 rfl n H2 (bt.trans (But.ex e2)) (w.ex e2) l Q q')
    | false => exact iteF (h2 rfl n H2 (bt.trans (But.ex e2)) (w.ex e2) l Q q')
/-! range(a, b, c) upwards -/
theorem RgC.up {j c : Int} (h0 : 0 ≤ j) (h1 : j ≤ 100000) (c0 : 0 < c) (c1 : c ≤ 100000) : ∃ n : Nat, RgC 0 j c n ∧ ∀ k : Nat, k < n → (k : Int) * c < j := by
  have hs : Builtin.Range.rangeSize 0 j c = (if 0 < j then (j - 0 - 1) / c + 1 else 0) := by
    unfold Builtin.Range.rangeSize
    rw [if_pos c0]
  have hd0 : 0 < j → 0 ≤ (j - 0 - 1) / c := fun h => Int.ediv_nonneg (by omega) (by omega)
  have hd1 : 0 < j → (j - 0 - 1) / c ≤ j - 0 - 1 := fun h => Int.ediv_le_self _ (by omega)
  refine ⟨(if 0 < j then (j - 0 - 1) / c + 1 else 0).toNat, ⟨by omega, by omega, ?_, ?_⟩, ?_⟩
  · unfold Builtin.Range.small
    rw [hs]
    simp only [Builtin.Range.rangeFitsLong, Bool.and_eq_true, Bool.or_eq_true, decide_eq_true_eq, beq_iff_eq, if_pos c0]
    by_cases hj : 0 < j
    · have := hd0 hj
      have := hd1 hj
      rw [if_pos hj]
      omega
    · rw [if_neg hj]
      omega
  · rw [hs, Int.toNat_of_nonneg]
    split
    · have := hd0 (by assumption)
      omega
    · omega
  · intro k hk
    by_cases hj : 0 < j
    · rw [if_pos hj] at hk
      have h2 : (k : Int) ≤ (j - 0 - 1) / c := by
        have := hd0 hj
        omega
      have := (Int.le_ediv_iff_mul_le c0).mp h2
      omega
    · rw [if_neg hj] at hk
      exact absurd hk (Nat.not_lt_zero _)
theorem q_forR3 {ta : TA} {i : Nat} {j c : Int} (h : EvA ta σ H [.int 0, .int j, .int c]) (h0 : 0 ≤ j) (h1 : j ≤ 100000) (c0 : 0 < c) (c1 : c ≤ 100000) (Pv : Nat → L2.St → Hp → Prop) (hp0 : ∀ H1, Ex H H1 → Pv 0 σ H1)
    (hs : ∀ (k : Nat) σ' H', (k : Int) * c < j → Pv k σ' H' → tu { D with nx := Pv (k + 1), ct := Pv (k + 1), bk := tz D } (σ'.set i (some (.int ((k : Int) * c)))) H') (hd : ∀ k σ' H', Pv k σ' H' → tz D σ' H') : tSeq (tFor (iRng3 ta) (gName i) tu) tz D σ H := by
  obtain ⟨n, hr, hn⟩ := RgC.up h0 h1 c0 c1
  refine h H (Ex.refl H) _ fun H1 e1 => ⟨0, j, c, n, rfl, hr, for_rangeC (lo := 0) (c := c) (n := n) Pv (hp0 H1 e1) (fun k σ' H' hk p => ?_) fun σ' H' p => hd n σ' H' p⟩
  have e0 : (0 : Int) + (k : Int) * c = (k : Int) * c := Int.zero_add _
  show tu { D with nx := Pv (k + 1), ct := Pv (k + 1), bk := tz D } (σ'.set i (some (.int ((0 : Int) + (k : Int) * c)))) H'
  rw [e0]
  exact hs k σ' H' (hn k hk) p
/-- three new tuples, drawn -/
theorem qw_par3U {i j l : Nat} {tc : TE} {d3 : Nat} {PA PB PC : List V → Prop} (h1 : EvWU a d1 ta σ H PA) (h2 : EvWU a d2 tb σ H PB) (h3 : EvWU a d3 tc σ H PC) (w : Well H a n) (hl : n + (d1 + d2 + d3) ≤ 2 ^ 50)
    (k : ∀ p q r xs ys zs H1, H p = none → H q = none → H r = none → But a H H1 → Well H1 a (n + (d1 + d2 + d3)) → H1 p = some (.tup xs) → H1 q = some (.tup ys) → H1 r = some (.tup zs) → PA xs → PB ys → PC zs →
      tz D (((σ.set i (some (.ref p))).set j (some (.ref q))).set l (some (.ref r))) H1) : tSeq (tPar3 i j l (tCons ta (tCons tb (tCons tc tNil)))) tz D σ H :=
  h1 n H (But.refl a H) w (by omega) _ fun p xs H2 hp b2 w2 g2 pa => h2 (n + d1) H2 b2 w2 (by omega) _ fun q ys H3 hq b3 w3 g3 pb => h3 (n + d1 + d2) H3 (b2.trans b3) w3 (by omega) _ fun r zs H4 hr b4 w4 g4 pc => by
    refine ⟨_, _, _, rfl, k p q r xs ys zs H4 hp (but_free b2 w2 hq) (but_free (b2.trans b3) w3 hr) ((b2.trans b3).trans b4) ?_ (b4 _ _ (w.ne hp) (b3 _ _ (w.ne hp) g2)) (b4 _ _ (w2.ne hq) g3) g4 pa pb pc⟩
    rw [show n + (d1 + d2 + d3) = n + d1 + d2 + d3 by omega]
    exact w4
theorem qw_par3L {i j l : Nat} {tc : TE} {d3 : Nat} {PA PB PC : List V → Prop} (h1 : EvWL a d1 ta σ H PA) (h2 : EvWL a d2 tb σ H PB) (h3 : EvWL a d3 tc σ H PC) (w : Well H a n) (hl : n + (d1 + d2 + d3) ≤ 2 ^ 50)
    (k : ∀ p q r xs ys zs H1, H p = none → H q = none → H r = none → But a H H1 → Well H1 a (n + (d1 + d2 + d3)) → H1 p = some (.lst xs) → H1 q = some (.lst ys) → H1 r = some (.lst zs) → PA xs → PB ys → PC zs →
      tz D (((σ.set i (some (.ref p))).set j (some (.ref q))).set l (some (.ref r))) H1) : tSeq (tPar3 i j l (tCons ta (tCons tb (tCons tc tNil)))) tz D σ H :=
  h1 n H (But.refl a H) w (by omega) _ fun p xs H2 hp b2 w2 g2 pa => h2 (n + d1) H2 b2 w2 (by omega) _ fun q ys H3 hq b3 w3 g3 pb => h3 (n + d1 + d2) H3 (b2.trans b3) w3 (by omega) _ fun r zs H4 hr b4 w4 g4 pc => by
    refine ⟨_, _, _, rfl, k p q r xs ys zs H4 hp (but_free b2 w2 hq) (but_free (b2.trans b3) w3 hr) ((b2.trans b3).trans b4) ?_ (b4 _ _ (w.ne hp) (b3 _ _ (w.ne hp) g2)) (b4 _ _ (w2.ne hq) g3) g4 pa pb pc⟩
    rw [show n + (d1 + d2 + d3) = n + d1 + d2 + d3 by omega]
    exact w4
end
end Bk
namespace Bk
open PySem PySem.Spec PyProof.Rows L2 Evl
/-! ### lists of lists of numbers -/
def up (r : List Nat) : List Int := r.map fun k : Nat => (k : Int)
theorem up_length (r : List Nat) : (up r).length = r.length := by simp [up]
def Nest (H : Hp) (qs : List Addr) (R : List (List Nat)) : Prop := qs.length = R.length ∧ ∀ (i : Nat) (q : Addr) (r : List Nat), qs[i]? = some q → R[i]? = some r → H q = some (.lst (vi (up r)))
section
variable {K : PySem.W.Frag} {σ : L2.St} {H H1 H' : Hp} {qs : List Addr} {R : List (List Nat)} {p q : Addr} {r : List Nat} {ta tb te tl : TE} {t u : TT} {x y z v : V} {D : Ends} {tu tw tz : TS}
theorem Nest.nil : Nest H [] [] := ⟨rfl, fun _ _ _ h => nomatch h⟩
theorem Nest.ex (h : Nest H qs R) (e : Ex H H1) : Nest H1 qs R := ⟨h.1, fun i q r a b => e _ _ (h.2 i q r a b)⟩
theorem Nest.but (h : Nest H qs R) (e : But p H H1) (n : ∀ q ∈ qs, q ≠ p) : Nest H1 qs R := ⟨h.1, fun i q r a b => e _ _ (n q (List.mem_of_getElem? a)) (h.2 i q r a b)⟩
theorem Nest.upd {o : HO} (h : Nest H qs R) (n : ∀ q ∈ qs, q ≠ p) : Nest (L2.upd H p o) qs R := ⟨h.1, fun i q r a b => by
  rw [upd_ne (n q (List.mem_of_getElem? a))]
  exact h.2 i q r a b⟩
theorem Nest.some (h : Nest H qs R) (hq : q ∈ qs) : ∃ o, H q = some o := by
  obtain ⟨i, hi, e⟩ := List.getElem_of_mem hq
  have hi' : i < R.length := h.1 ▸ hi
  exact ⟨_, h.2 i q R[i] (by rw [← e, List.getElem?_eq_getElem hi]) (List.getElem?_eq_getElem hi')⟩
theorem Nest.ne (_ : Nest H qs R) (h : Nest H1 qs R) (hq : q ∈ qs) (n : H1 p = none) : q ≠ p := fun e => by
  obtain ⟨o, ho⟩ := h.some hq
  rw [e, n] at ho
  cases ho
theorem Nest.put (h : Nest H qs R) (hq : H q = Option.some (.lst (vi (up r)))) : Nest H (qs ++ [q]) (R ++ [r]) := by
  refine ⟨by rw [List.length_append, List.length_append, h.1]; rfl, fun i q' r' a b => ?_⟩
  by_cases c : i < qs.length
  · rw [List.getElem?_append_left c] at a
    rw [List.getElem?_append_left (h.1 ▸ c)] at b
    exact h.2 i q' r' a b
  · rw [List.getElem?_append_right (by omega)] at a
    rw [List.getElem?_append_right (by have := h.1; omega)] at b
    rw [← h.1] at b
    match hi : i - qs.length, a, b with
    | 0, a, b =>
      cases a
      cases b
      exact hq
    | k + 1, a, b => cases a
theorem ne_of_none' {o : HO} {a b : Addr} (n : H a = none) (h : H b = some o) : a ≠ b := fun e => by
  rw [e, h] at n
  cases n
theorem rings_le {R : List (List Nat)} (h : ∀ r ∈ R, 0 < r.length) : R.length ≤ R.flatten.length := by
  induction R with
  | nil => exact Nat.le_refl _
  | cons a R ih =>
    rw [List.flatten_cons, List.length_append, List.length_cons]
    have := h a List.mem_cons_self
    have := ih fun r hr => h r (List.mem_cons_of_mem _ hr)
    omega
def RetN (R : List (List Nat)) (H : Hp) (Q : VK) : Prop := ∀ p qs H2, H p = none → Ex H H2 → H2 p = some (.lst (qs.map .ref)) → Nest H2 qs R → (∀ q ∈ qs, H q = none) → Q (.ref p) H2
def SpN (sp : Sp) (vs : List V) (H : Hp) (R : List (List Nat)) : Prop := ∀ H1, Ex H H1 → ∀ Q : VK, RetN R H1 Q → ∀ E : XK, sp vs H1 Q E
def EvN (te : TE) (σ : L2.St) (H : Hp) (R : List (List Nat)) : Prop := ∀ H1, Ex H H1 → ∀ Q : VK, RetN R H1 Q → te σ H1 Q
theorem en_call {sp : Sp} {vs : List V} {E : XK} {ta : TA} (h : EvA ta σ H vs) (hs : SpN sp vs H R) : EvN (tCall sp [] E ta) σ H R := fun H1 e Q q =>
  h H1 e _ fun H2 e2 => by
    have := hs H2 (e.trans e2) Q (fun p qs H3 hp e3 h3 n f => q p qs H3 (fresh_back e2 hp) (e2.trans e3) h3 n fun b hb => fresh_back e2 (f b hb)) E
    rw [← List.append_nil vs] at this
    exact this
/-- a comprehension over it -/
theorem el_lcN {j : Nat} {vs : List Nat} (f : Nat → Bool) (v : Nat → V) (h : EvN tl σ H R) (hz : R.length ≤ 40000) (hw : ∀ x, wipe ((wipe σ vs).set j (some x)) vs = wipe σ vs)
    (ht : ∀ (i : Nat) q r H1, Ex H H1 → R[i]? = some r → H1 q = some (.lst (vi (up r))) → EvT t ((wipe σ vs).set j (some (.ref q))) H1 (f i)) (he : ∀ (i : Nat) q r H1, Ex H H1 → R[i]? = some r → H1 q = some (.lst (vi (up r))) → f i = true → Ev te ((wipe σ vs).set j (some (.ref q))) H1 (v i)) :
    EvL (tLc (iList K tl) (gName j) t te vs) σ H (given R.length f v) := fun H0 e Q q => h H0 e _ fun a qs H1 ha e1 hx nq _ => ⟨a, rfl, ⟨qs.map .ref, sq_of hx⟩, fun Dl hD =>
  lc_list (xs := qs.map .ref) (Cw H1 f v Dl) ⟨hD, Ex.new hD, upd_same⟩ (fun i H' _ p => sq_of (p.2.1 a _ hx)) (fun i x H' hi p => by
    rw [List.getElem?_map] at hi
    cases g : qs[i]? with
    | none => rw [g] at hi; cases hi
    | some b =>
      rw [g] at hi
      cases hi
      have hl := (List.getElem?_eq_some_iff.mp g).1
      have hlr : i < R.length := nq.1 ▸ hl
      have hR : R[i]? = some R[i] := List.getElem?_eq_getElem hlr
      have hb := nq.2 i b _ g hR
      refine ⟨hw _, cw_turn p (by have := nq.1; omega) (ht i b _ H1 (e.trans e1) hR hb) (fun hf => he i b _ H1 (e.trans e1) hR hb hf)⟩)
    (fun H' p => q Dl H' (fresh_back e1 p.1) (e1.trans p.2.1) (by
      have := p.2.2
      rw [List.length_map, nq.1] at this
      exact this))⟩
/-- a loop over it -/
theorem s_forN {j : Nat} (h : EvN tl σ H R) (Pv : Addr → List Addr → Nat → L2.St → Hp → Prop) (h0 : ∀ p qs H1, H p = none → Ex H H1 → H1 p = some (.lst (qs.map .ref)) → Nest H1 qs R → (∀ q ∈ qs, H q = none) → Pv p qs 0 σ H1)
    (hl : ∀ p qs i σ' H', i ≤ R.length → Pv p qs i σ' H' → H' p = some (.lst (qs.map .ref)) ∧ Nest H' qs R)
    (hs : ∀ p qs i q r σ' H', R[i]? = some r → H' q = some (.lst (vi (up r))) → q ∈ qs → Pv p qs i σ' H' → tu { D with nx := Pv p qs (i + 1), ct := Pv p qs (i + 1), bk := D.nx } (σ'.set j (some (.ref q))) H') (hd : ∀ p qs σ' H', Pv p qs R.length σ' H' → D.nx σ' H') : tFor (iList K tl) (gName j) tu D σ H :=
  h H (Ex.refl H) _ fun p qs H1 hp e h1 nq fq => ⟨p, rfl, ⟨qs.map .ref, sq_of h1⟩, for_list (Pv p qs) (h0 p qs H1 hp e h1 nq fq) (fun i σ' H' hi k => sq_of (hl p qs i σ' H' (by rw [List.length_map, nq.1] at hi; exact hi) k).1) (fun i x σ' H' hx k => by
    rw [List.getElem?_map] at hx
    cases g : qs[i]? with
    | none => rw [g] at hx; cases hx
    | some b =>
      rw [g] at hx
      cases hx
      have hlt := (List.getElem?_eq_some_iff.mp g).1
      have hlr : i < R.length := nq.1 ▸ hlt
      have hR : R[i]? = some R[i] := List.getElem?_eq_getElem hlr
      exact hs p qs i b _ σ' H' hR ((hl p qs i σ' H' (Nat.le_of_lt hlr) k).2.2 i b _ g hR) (List.mem_of_getElem? g) k) (fun σ' H' k => hd p qs σ' H' (by rw [List.length_map, nq.1] at k; exact k))⟩
theorem q_forN {j : Nat} (h : EvN tl σ H R) (Pv : Addr → List Addr → Nat → L2.St → Hp → Prop) (h0 : ∀ p qs H1, H p = none → Ex H H1 → H1 p = some (.lst (qs.map .ref)) → Nest H1 qs R → (∀ q ∈ qs, H q = none) → Pv p qs 0 σ H1)
    (hl : ∀ p qs i σ' H', i ≤ R.length → Pv p qs i σ' H' → H' p = some (.lst (qs.map .ref)) ∧ Nest H' qs R)
    (hs : ∀ p qs i q r σ' H', R[i]? = some r → H' q = some (.lst (vi (up r))) → q ∈ qs → Pv p qs i σ' H' → tu { D with nx := Pv p qs (i + 1), ct := Pv p qs (i + 1), bk := tz D } (σ'.set j (some (.ref q))) H') (hd : ∀ p qs σ' H', Pv p qs R.length σ' H' → tz D σ' H') : tSeq (tFor (iList K tl) (gName j) tu) tz D σ H :=
  s_forN (D := { D with nx := tz D }) h Pv h0 hl hs hd
end
end Bk
namespace Bk
open PySem PySem.Spec PyProof.Rows L2 Evl
/-! ### tests and calls with drawn parts -/
def EvWT (a : Addr) (d : Nat) (t : TT) (σ : L2.St) (H : Hp) (b : Bool) : Prop := ∀ (n : Nat) (H1 : Hp), But a H H1 → Well H1 a n → n + d ≤ 2 ^ 50 → ∀ Q : Bool → Hp → Prop, (∀ H2, But a H1 H2 → Well H2 a (n + d) → Q b H2) → t σ H1 Q
section
variable {K : PySem.W.Frag} {σ : L2.St} {H : Hp} {ta tb te ti tl : TE} {t u : TT} {a : Addr} {d d1 d2 n : Nat} {P P1 P2 : V → Prop} {v x y : V} {b : Bool} {D : Ends} {tu tw tz : TS} {sp : Sp} {E : XK}
theorem ewt_test (h : EvW a d te σ H (fun v => v = .bl b)) : EvWT a d (tTest te) σ H b := fun n H1 bt w l Q q => h n H1 bt w l _ fun v H2 b2 w2 e => ⟨b, e, q H2 b2 w2⟩
theorem ewt_B (h : EvW a d te σ H (fun v => v = .bl b)) : EvWT a d (tB te) σ H b := fun n H1 bt w l Q q => h n H1 bt w l _ fun v H2 b2 w2 e => ⟨b, e, q H2 b2 w2⟩
theorem ewt_not {c : Bool} (h : EvWT a d t σ H c) : EvWT a d (tNot t) σ H (!c) := fun n H1 bt w l Q q => h n H1 bt w l _ fun H2 b2 w2 => q H2 b2 w2
theorem qw_when (h : EvWT a d t σ H b) (w : Well H a n) (l : n + d ≤ 2 ^ 50) (k1 : b = true → ∀ H1, But a H H1 → Well H1 a (n + d) → tu { D with nx := tz D } σ H1) (k2 : b = false → ∀ H1, But a H H1 → Well H1 a (n + d) → tw { D with nx := tz D } σ H1) : tSeq (tIfS t tu tw) tz D σ H :=
  h n H (But.refl a H) w l _ fun H2 b2 w2 => by
    cases b with
    | true => exact iteT (k1 rfl H2 b2 w2)
    | false => exact iteF (k2 rfl H2 b2 w2)
theorem sw_when (h : EvWT a d t σ H b) (w : Well H a n) (l : n + d ≤ 2 ^ 50) (k1 : b = true → ∀ H1, But a H H1 → Well H1 a (n + d) → tu D σ H1) (k2 : b = false → ∀ H1, But a H H1 → Well H1 a (n + d) → tw D σ H1) : tIfS t tu tw D σ H :=
  h n H (But.refl a H) w l _ fun H2 b2 w2 => by
    cases b with
    | true => exact iteT (k1 rfl H2 b2 w2)
    | false => exact iteF (k2 rfl H2 b2 w2)
theorem sw_ret (h : EvW a d te σ H P) (w : Well H a n) (l : n + d ≤ 2 ^ 50) (k : ∀ v H1, But a H H1 → Well H1 a (n + d) → P v → D.rt v H1) : tRet te D σ H := h n H (But.refl a H) w l _ k
/-- f(drawn tuple) -/
theorem ew_callU {PU : List V → Prop} (h : EvWU a d te σ H PU) (hs : ∀ p xs H1, H1 p = some (.tup xs) → PU xs → SpV sp [.ref p] H1 v) : EvW a d (tCall sp [] E (tCons te tNil)) σ H (fun z => z = v) := fun n H1 bt w l Q q =>
  h n H1 bt w l _ fun p xs H2 hp b2 w2 h2 pu => hs p xs H2 h2 pu H2 (Ex.refl H2) Q (fun H3 e3 => q v H3 (b2.trans (But.ex e3)) (w2.ex e3) rfl) E
theorem ew_callUV {PU : List V → Prop} (h : EvWU a d1 te σ H PU) (h' : EvW a d2 ti σ H P) (hs : ∀ p xs x H1, H1 p = some (.tup xs) → PU xs → P x → SpV sp [.ref p, x] H1 v) : EvW a (d1 + d2) (tCall sp [] E (tCons te (tCons ti tNil))) σ H (fun z => z = v) := fun n H1 bt w l Q q =>
  h n H1 bt w (by omega) _ fun p xs H2 hp b2 w2 h2 pu => h' (n + d1) H2 (bt.trans b2) w2 (by omega) _ fun x H3 b3 w3 px => hs p xs x H3 (b3 _ _ (w.ne hp) h2) pu px H3 (Ex.refl H3) Q (fun H4 e4 => q v H4 ((b2.trans b3).trans (But.ex e4)) (by
    have := w3.ex e4
    rw [Nat.add_assoc] at this
    exact this) rfl) E
/-- draw > 0 or f(..) -/
theorem ew_orV {c : Bool} (h1 : EvW a d1 ta σ H (fun v => ∃ b, v = .bl b)) (h2 : EvW a d2 tb σ H (fun v => v = .bl true)) : EvW a (d1 + d2) (tOrV ta tb) σ H (fun v => v = .bl true) := fun n H1 bt w l Q q =>
  h1 n H1 bt w (by omega) _ fun v H2 b2 w2 ⟨b, e⟩ => ⟨b, e, by
    cases b with
    | true => exact iteT (q _ H2 b2 (w2.mono (by omega)) rfl)
    | false => exact iteF (h2 (n + d1) H2 (bt.trans b2) w2 (by omega) Q fun v H3 b3 w3 e => q v H3 (b2.trans b3) (by
        rw [Nat.add_assoc] at w3
        exact w3) e)⟩
theorem ew_gt {P1 P2 : Int → Prop} (h1 : EvW a d1 ta σ H (fun v => ∃ r, v = .int r ∧ P1 r)) (h2 : EvW a d2 tb σ H (fun v => ∃ r, v = .int r ∧ P2 r)) : EvW a (d1 + d2) (tOp (rI0 fun i j => .bl (decide (j < i))) ta tb) σ H (fun v => ∃ b, v = .bl b) :=
  ew_op h1 h2 fun x y ⟨i, ei, p⟩ ⟨j, ej, p'⟩ => ⟨.bl (decide (j < i)), fun H => by
    rw [ei, ej]
    exact rv_b rfl, _, rfl⟩
theorem ew_sub {P1 P2 P : Int → Prop} (h1 : EvW a d1 ta σ H (fun v => ∃ r, v = .int r ∧ P1 r)) (h2 : EvW a d2 tb σ H (fun v => ∃ r, v = .int r ∧ P2 r)) (h : ∀ x y, P1 x → P2 y → P (x - y)) :
    EvW a (d1 + d2) (tOp (rI0 fun i j => .int (i - j)) ta tb) σ H (fun v => ∃ r, v = .int r ∧ P r) :=
  ew_op h1 h2 fun x y ⟨i, ei, p⟩ ⟨j, ej, p'⟩ => ⟨.int (i - j), fun H => by
    rw [ei, ej]
    exact rv_I0, i - j, rfl, h i j p p'⟩
end
section
variable {K : PySem.W.Frag} {σ : L2.St} {H : Hp} {ta tb : TE} {D : Ends} {tz : TS}
/-- x, y = ([..], [..]) by a tuple -/
theorem q_tupLL {i j : Nat} {xs ys : List V} (h1 : EvL ta σ H xs) (h2 : ∀ p H1, H p = none → Ex H H1 → H1 p = some (.lst xs) → EvL tb σ H1 ys) (k : ∀ p q H1, H p = none → H q = none → p ≠ q → Ex H H1 → H1 p = some (.lst xs) → H1 q = some (.lst ys) → tz D ((σ.set i (some (.ref p))).set j (some (.ref q))) H1) :
    tSeq (tAsg (tTup (tCons ta (tCons tb tNil))) (gTup K 2 (gCons (gName i) (gCons (gName j) gNil)))) tz D σ H :=
  h1 H (Ex.refl H) _ fun p H2 hp e2 g2 => h2 p H2 hp e2 g2 H2 (Ex.refl H2) _ fun q H3 hq e3 g3 => ⟨sz_of (by show 2 ≤ 100000; decide), fun r hr => ⟨r, _, rfl, st_of upd_same, rfl, _, _, rfl, _, _, rfl, rfl, k p q _ hp (fresh_back e2 hq) (ne_of_none g2 hq) ((e2.trans e3).trans (Ex.new hr)) (Ex.new hr _ _ (e3 _ _ g2)) (Ex.new hr _ _ g3)⟩⟩
end
/-! ### lists picked -/
theorem given_filter (xs : List Int) (p : Int → Bool) : given xs.length (fun j => p (xs.getD j 0)) (fun j => V.int (xs.getD j 0)) = vi (xs.filter p) := by
  have e : xs = (List.range xs.length).map fun j => xs.getD j 0 := by
    refine List.ext_getElem? fun i => ?_
    rw [List.getElem?_map]
    by_cases hi : i < xs.length
    · rw [List.getElem?_range hi, List.getElem?_eq_getElem hi]
      show _ = some (xs.getD i 0)
      rw [List.getD_eq_getElem?_getD, List.getElem?_eq_getElem hi]
      rfl
    · rw [List.getElem?_eq_none (by omega), List.getElem?_eq_none (by rw [List.length_range]; omega)]
      rfl
  have e2 : xs.filter p = ((List.range xs.length).filter fun j => p (xs.getD j 0)).map fun j => xs.getD j 0 := by
    conv => lhs; rw [e]
    rw [List.filter_map]
    rfl
  unfold given vi
  rw [e2, List.map_map]
  rfl
theorem perm_sum {xs ys : List Int} (h : xs.Perm ys) : xs.sum = ys.sum := by
  induction h with
  | nil => rfl
  | cons x _ ih => rw [List.sum_cons, List.sum_cons, ih]
  | swap x y l => simp only [List.sum_cons]; omega
  | trans _ _ a b => exact a.trans b
end Bk
namespace Bk
open PySem PySem.Spec PyProof.Rows L2 Evl
/-! ### xs.count(k) -/
def rLCount : V → List V → Hp → VK → Prop := fun x vs H Q => ∃ l ns k, x = .ref l ∧ vs = [.int k] ∧ H l = some (.lst (vi ns)) ∧ Q (.int (ns.count k : Nat)) H
theorem mt_lcount {X : Cx} : MtM X "list.count" rLCount := by
  intro pins s σ H x vs v us Q I rx rv h
  obtain ⟨l, ns, k, rfl, rfl, hH, q⟩ := h
  cases rx
  obtain ⟨u, rfl, ru⟩ := rv.one
  obtain ⟨t, rfl⟩ := ru
  obtain ⟨z, its, n, r, hl, e⟩ := I.lstM hH
  exact count_list_ints ⟨_, e, rfl, n, rfl⟩ r.ints ⟨.int (ns.count k : Nat), H, I.tok _, ⟨_, rfl⟩, q⟩
section
variable {K : PySem.W.Frag} {σ : L2.St} {H : Hp} {ta tb : TE}
theorem ev_lcount {l : Addr} {ns : List Int} {k : Int} (ha : Ev ta σ H (.ref l)) (h : H l = some (.lst (vi ns))) (hb : Ev tb σ H (.int k)) : Ev (tBM K "list" rLCount ta (tCons tb tNil)) σ H (.int ((ns.count k : Nat) : Int)) := fun H1 e Q q =>
  ha H1 e _ fun H2 e2 => ⟨Or.inl ⟨rfl, _, sq_of ((e.trans e2) _ _ h)⟩, hb H2 (e.trans e2) _ fun H3 e3 => ⟨l, ns, k, rfl, rfl, ((e.trans e2).trans e3) _ _ h, q H3 (e2.trans e3)⟩⟩
variable {tb' : TE} {D : Ends}
theorem s_parVV {i j : Nat} {x y : V} (h1 : Ev ta σ H x) (h2 : Ev tb σ H y) (k : ∀ H1, Ex H H1 → D.nx ((σ.set i (some x)).set j (some y)) H1) :
    tPar i j (tCons ta (tCons tb tNil)) D σ H :=
  h1 H (Ex.refl H) _ fun H2 e2 => h2 H2 e2 _ fun H3 e3 => ⟨_, _, rfl, k H3 (e2.trans e3)⟩
end
end Bk
namespace Bk
open PySem PySem.Spec PyProof.Rows L2 Evl
section
variable {K : PySem.W.Frag} {σ : L2.St} {H : Hp} {ta tb : TE}
theorem el_listT {p : Addr} {xs : List V} (ha : Ev ta σ H (.ref p)) (h : SqT K H p xs) : EvL (tCB (rListS K) (tCons ta tNil)) σ H xs := fun H1 e Q q =>
  ha H1 e _ fun H2 e2 => ⟨p, xs, rfl, Or.inr (ex_t (e.trans e2) h), fun l hl => q l _ (fresh_back e2 hl) (e2.trans (Ex.new hl)) upd_same⟩
theorem eu_rg1 {n : Int} (ha : Ev ta σ H (.int n)) (h0 : 0 ≤ n) (hn : n ≤ 100000) : EvU (tTupRg (tRg1 ta)) σ H (rgV 0 n) := fun H1 e Q q =>
  ha H1 e _ fun H2 e2 => ⟨n, rfl, RgOk.of_le (by omega) (by omega) (by omega) h0, fun l hl => q l _ (fresh_back e2 hl) (e2.trans (Ex.new hl)) upd_same⟩
theorem ev_neg {i : Int} (ha : Ev ta σ H (.int i)) : Ev (tUn (rU fun i => .int (-i)) ta) σ H (.int (-i)) := fun H1 e Q q => ha H1 e _ fun H2 e2 => ⟨i, rfl, q H2 e2⟩
end
end Bk
namespace Bk
open PySem PySem.Spec PyProof.Rows L2 Evl
/-! ### xs[i] += e, xs[i] -= e -/
def rGetL (K : PySem.W.Frag) : V → V → Hp → VK → Prop := fun x y H Q => ∃ (p : Addr) (xs : List V) (j : Nat) (v : V), x = .ref p ∧ y = .int (j : Int) ∧ SqL K H p xs ∧ xs[j]? = some v ∧ Q v H
theorem pget_list {X : Cx} : PGet X (rGetL X.K) := by
  intro pins s σ H o i ov iv Q I ro ri h
  obtain ⟨p, xs, j, v, rfl, rfl, hq, hx, q⟩ := h
  cases ro
  obtain ⟨t, rfl⟩ := ri
  obtain ⟨its, r, pl, hz⟩ := I.list hq
  obtain ⟨w, ew, rw'⟩ := r.get hx
  have hl := (List.getElem?_eq_some_iff.mp hx).1
  have hn := line63
  exact PySem.wpAny_getItem_list pl.isList (by omega) (by omega) (by simpa using ew) ⟨v, H, I, rw', q⟩
section
variable {K : PySem.W.Frag} {σ : L2.St} {H : Hp} {ta tb te ti to' : TE} {D : Ends} {tu tz : TS} {t : TT}
theorem s_augL {l : Addr} {xs : List V} {j : Nat} {a b : Int} {f : Int → Int → Int} (ho : Ev ta σ H (.ref l)) (hi : Ev ti σ H (.int (j : Int))) (hl : H l = some (.lst xs)) (hx : xs[j]? = some (.int a)) (he : Ev te σ H (.int b)) (k : ∀ H1, Ex H H1 → D.nx σ (upd H1 l (.lst (xs.set j (.int (f a b)))))) :
    tAugS ta ti te (rGetL K) (ipI f) rSetL D σ H := ho H (Ex.refl H) _ fun H1 e1 => hi H1 e1 _ fun H2 e2 =>
  ⟨l, xs, j, _, rfl, rfl, sq_of ((e1.trans e2) _ _ hl), hx, he H2 (e1.trans e2) _ fun H3 e3 => ⟨a, b, rfl, rfl, l, xs, (j : Int), j, rfl, rfl, ((e1.trans e2).trans e3) _ _ hl, ixN_nat (List.getElem?_eq_some_iff.mp hx).1, k H3 ((e1.trans e2).trans e3)⟩⟩
/-! ### range(a, b, c) upwards, from anywhere -/
theorem RgC.upG {lo j c : Int} (l0 : 0 ≤ lo) (l1 : lo ≤ 100000) (h0 : 0 ≤ j) (h1 : j ≤ 100000) (c0 : 0 < c) (c1 : c ≤ 100000) : ∃ n : Nat, RgC lo j c n ∧ (∀ k : Nat, k < n → lo + (k : Int) * c < j) ∧ j ≤ lo + (n : Int) * c := by
  have hs : Builtin.Range.rangeSize lo j c = (if lo < j then (j - lo - 1) / c + 1 else 0) := by
    unfold Builtin.Range.rangeSize
    rw [if_pos c0]
  have hd0 : lo < j → 0 ≤ (j - lo - 1) / c := fun h => Int.ediv_nonneg (by omega) (by omega)
  have hd1 : lo < j → (j - lo - 1) / c ≤ j - lo - 1 := fun h => Int.ediv_le_self _ (by omega)
  refine ⟨(if lo < j then (j - lo - 1) / c + 1 else 0).toNat, ⟨by omega, by omega, ?_, ?_⟩, ?_, ?_⟩
  · unfold Builtin.Range.small
    rw [hs]
    simp only [Builtin.Range.rangeFitsLong, Bool.and_eq_true, Bool.or_eq_true, decide_eq_true_eq, beq_iff_eq, if_pos c0]
    by_cases hj : lo < j
    · have := hd0 hj
      have := hd1 hj
      rw [if_pos hj]
      omega
    · rw [if_neg hj]
      omega
  · rw [hs, Int.toNat_of_nonneg]
    split
    · have := hd0 (by assumption)
      omega
    · omega
  · intro k hk
    by_cases hj : lo < j
    · rw [if_pos hj] at hk
      have h2 : (k : Int) ≤ (j - lo - 1) / c := by
        have := hd0 hj
        omega
      have := (Int.le_ediv_iff_mul_le c0).mp h2
      omega
    · rw [if_neg hj] at hk
      exact absurd hk (Nat.not_lt_zero _)
  · by_cases hj : lo < j
    · rw [if_pos hj]
      have := hd0 hj
      rw [Int.toNat_of_nonneg (by omega)]
      have := Int.lt_ediv_add_one_mul_self (j - lo - 1) c0
      omega
    · rw [if_neg hj]
      show j ≤ lo + (0 : Int) * c
      omega
theorem s_forR3G {ta : TA} {i : Nat} {lo j c : Int} (h : EvA ta σ H [.int lo, .int j, .int c]) (l0 : 0 ≤ lo) (l1 : lo ≤ 100000) (h0 : 0 ≤ j) (h1 : j ≤ 100000) (c0 : 0 < c) (c1 : c ≤ 100000) (Pv : Nat → L2.St → Hp → Prop) (hp0 : ∀ H1, Ex H H1 → Pv 0 σ H1)
    (hs : ∀ (k : Nat) σ' H', lo + (k : Int) * c < j → Pv k σ' H' → tu { D with nx := Pv (k + 1), ct := Pv (k + 1), bk := D.nx } (σ'.set i (some (.int (lo + (k : Int) * c)))) H') (hd : ∀ (k : Nat) σ' H', j ≤ lo + (k : Int) * c → Pv k σ' H' → D.nx σ' H') : tFor (iRng3 ta) (gName i) tu D σ H := by
  obtain ⟨n, hr, hn, he⟩ := RgC.upG l0 l1 h0 h1 c0 c1
  exact h H (Ex.refl H) _ fun H1 e1 => ⟨lo, j, c, n, rfl, hr, for_rangeC (lo := lo) (c := c) (n := n) Pv (hp0 H1 e1) (fun k σ' H' hk p => hs k σ' H' (hn k hk) p) fun σ' H' p => hd n σ' H' he p⟩
theorem q_forNEnC {xs : List V} {tl : TE} {c : Int} {i j : Nat} (h : EvL tl σ H xs) (Pv : Addr → Nat → L2.St → Hp → Prop) (h0 : ∀ p H1, H p = none → Ex H H1 → H1 p = some (.lst xs) → Pv p 0 σ H1) (hl : ∀ p n σ' H', n ≤ xs.length → Pv p n σ' H' → SqL K H' p xs)
    (hs : ∀ p n x σ' H', xs[n]? = some x → Pv p n σ' H' → ∀ H1, Ex H' H1 → tu { D with nx := Pv p (n + 1), ct := Pv p (n + 1), bk := tz D } ((σ'.set i (some (.int (c + (n : Nat))))).set j (some x)) H1) (hd : ∀ p σ' H', Pv p xs.length σ' H' → tz D σ' H') :
    tSeq (tFor (iEnumC K (tCons tl tNil) c) (g2 K i j) tu) tz D σ H := s_forNEnC (D := { D with nx := tz D }) h Pv h0 hl hs hd
theorem rv_notN {x : V} : RV (fun x y H Q => y = V.non ∧ Q (V.bl (!decide (x = V.non))) H) x .non H (.bl (!decide (x = .non))) := fun H1 e Q q => ⟨rfl, q H1 (Ex.refl H1)⟩
theorem rv_isN {x : V} : RV (fun x y H Q => y = V.non ∧ Q (V.bl (decide (x = V.non))) H) x .non H (.bl (decide (x = .non))) := fun H1 e Q q => ⟨rfl, q H1 (Ex.refl H1)⟩
/-! ### a comprehension whose items are drawn -/
theorem ewl_lcR1 {a : Addr} {d1 d2 : Nat} {N : Nat} {P : Int → Prop} {PE : V → Prop} {j : Nat} {vs : List Nat} (h : EvW a d1 te σ H (fun v => ∃ r, v = .int r ∧ P r)) (hP : ∀ r, P r → 0 ≤ r ∧ r ≤ N) (hN : N ≤ 40000) (hw : ∀ x, wipe ((wipe σ vs).set j (some x)) vs = wipe σ vs)
    (he : ∀ (i : Nat) H1, But a H H1 → EvW a d2 to' ((wipe σ vs).set j (some (.int (i : Int)))) H1 PE) :
    EvWL a (d1 + N * d2) (tLc (iRng1 (tCons te tNil)) (gName j) tYes to' vs) σ H (fun xs => ∃ r, P r ∧ (xs.length : Int) = r ∧ ∀ x ∈ xs, PE x) := fun n H0 b w l Q q =>
  h n H0 b w (by omega) _ fun v H1 b1 w1 ⟨r, er, pr⟩ => by
    subst er
    obtain ⟨r0, r1⟩ := hP r pr
    obtain ⟨m, rfl⟩ : ∃ m : Nat, r = m := ⟨r.toNat, by omega⟩
    have mle : m * d2 ≤ N * d2 := Nat.mul_le_mul_right _ (by omega)
    refine ⟨(m : Int), rfl, by omega, by omega, fun Dl hD => ?_⟩
    have nD : Dl ≠ a := w1.ne hD
    refine lc_range (lo := 0) (n := (m : Int).toNat) (fun i H' => But a H1 H' ∧ Well H' a (n + d1 + i * d2) ∧ ∃ xs, H' Dl = some (.lst xs) ∧ xs.length = i ∧ ∀ x ∈ xs, PE x) ⟨But.new hD, ?_, [], upd_same, rfl, fun x hx => nomatch hx⟩ (fun i H' hi p => ?_) (fun H' p => ?_)
    · rw [Nat.zero_mul, Nat.add_zero]
      exact w1.ex (Ex.new hD)
    · have e0 : (0 : Int) + (i : Int) = (i : Int) := Int.zero_add _
      show wipe ((wipe σ vs).set j (some (.int ((0 : Int) + (i : Int))))) vs = wipe σ vs ∧ tYes ((wipe σ vs).set j (some (.int ((0 : Int) + (i : Int))))) H' fun b H3 => if b = true then to' ((wipe σ vs).set j (some (.int ((0 : Int) + (i : Int))))) H3 fun y H4 => ∃ acc, H4 Dl = some (.lst acc) ∧ acc.length < sizeLine ∧ _ else _
      rw [e0]
      obtain ⟨p1, p2, xs, p3, p4, p5⟩ := p
      have hi' : i < m := by omega
      have ile : i * d2 + d2 ≤ m * d2 := by
        rw [← Nat.succ_mul]
        exact Nat.mul_le_mul_right _ hi'
      refine ⟨hw _, et_yes H' (Ex.refl H') _ fun H3 e3 => ?_⟩
      refine iteT (he i H3 (((b.trans b1).trans p1).trans (But.ex e3)) (n + d1 + i * d2) H3 (But.refl a H3) (p2.ex e3) (by omega) _ fun y H4 b4 w4 py => ?_)
      refine ⟨xs, b4 _ _ nD (e3 _ _ p3), sz_lt (by omega), ((p1.trans (But.ex e3)).trans b4).own hD, ?_, xs ++ [y], upd_same, by rw [List.length_append, p4]; rfl, fun x hx => ?_⟩
      · obtain ⟨x, y', c, q1, q2⟩ := w4
        refine ⟨x, y', c, by rw [upd_ne (Ne.symm nD)]; exact q1, ?_⟩
        rw [Nat.succ_mul]
        obtain ⟨q2, q3, q4, q5⟩ := q2
        exact ⟨q2, q3, q4, by omega⟩
      · rcases List.mem_append.mp hx with hx | hx
        · exact p5 x hx
        · rw [List.mem_singleton.mp hx]
          exact py
    · obtain ⟨p1, p2, xs, p3, p4, p5⟩ := p
      rw [Int.toNat_natCast] at p2 p4
      exact q Dl xs H' (but_free b1 w1 hD) (b1.trans p1) (p2.mono (by omega)) p3 ⟨(m : Int), pr, by rw [p4], p5⟩
end
section
variable {K : PySem.W.Frag} {σ : L2.St} {H : Hp} {ta tb te : TE} {a : Addr} {d1 d2 n : Nat} {D : Ends} {tz : TS}
/-- x, y = (drawn list, drawn list), by a tuple -/
theorem qw_tupLL {i j : Nat} {PA PB : List V → Prop} (h1 : EvWL a d1 ta σ H PA) (h2 : EvWL a d2 tb σ H PB) (w : Well H a n) (hl : n + (d1 + d2) ≤ 2 ^ 50)
    (k : ∀ p q xs ys H1, H p = none → H q = none → But a H H1 → Well H1 a (n + (d1 + d2)) → H1 p = some (.lst xs) → H1 q = some (.lst ys) → PA xs → PB ys → tz D ((σ.set i (some (.ref p))).set j (some (.ref q))) H1) :
    tSeq (tAsg (tTup (tCons ta (tCons tb tNil))) (gTup K 2 (gCons (gName i) (gCons (gName j) gNil)))) tz D σ H :=
  h1 n H (But.refl a H) w (by omega) _ fun p xs H2 hp b2 w2 g2 pa => h2 (n + d1) H2 b2 w2 (by omega) _ fun q ys H3 hq b3 w3 g3 pb => ⟨sz_of (by show 2 ≤ 100000; decide), fun r hr => ⟨r, _, rfl, st_of upd_same, rfl, _, _, rfl, _, _, rfl, rfl, by
    refine k p q xs ys _ hp (but_free b2 w2 hq) ((b2.trans b3).trans (But.new hr)) ?_ (Ex.new hr _ _ (b3 _ _ (w.ne hp) g2)) (Ex.new hr _ _ g3) pa pb
    rw [← Nat.add_assoc]
    exact w3.ex (Ex.new hr)⟩⟩
/-- x, y = (drawn, drawn), by a tuple -/
theorem qw_tupVV {i j : Nat} {PA PB : V → Prop} (h1 : EvW a d1 ta σ H PA) (h2 : EvW a d2 tb σ H PB) (w : Well H a n) (hl : n + (d1 + d2) ≤ 2 ^ 50)
    (k : ∀ x y H1, But a H H1 → Well H1 a (n + (d1 + d2)) → PA x → PB y → tz D ((σ.set i (some x)).set j (some y)) H1) :
    tSeq (tAsg (tTup (tCons ta (tCons tb tNil))) (gTup K 2 (gCons (gName i) (gCons (gName j) gNil)))) tz D σ H :=
  h1 n H (But.refl a H) w (by omega) _ fun x H2 b2 w2 pa => h2 (n + d1) H2 b2 w2 (by omega) _ fun y H3 b3 w3 pb => ⟨sz_of (by show 2 ≤ 100000; decide), fun r hr => ⟨r, _, rfl, st_of upd_same, rfl, _, _, rfl, _, _, rfl, rfl, by
    refine k x y _ ((b2.trans b3).trans (But.new hr)) ?_ pa pb
    rw [← Nat.add_assoc]
    exact w3.ex (Ex.new hr)⟩⟩
theorem el_callVL {sp : Sp} {x : V} {xs ys : List V} {E : XK} (h : Ev ta σ H x) (h2 : EvL tb σ H xs) (hs : ∀ p H1, Ex H H1 → H1 p = some (.lst xs) → SpL sp [x, .ref p] H1 ys) : EvL (tCall sp [] E (tCons ta (tCons tb tNil))) σ H ys := fun H1 e Q q =>
  h H1 e _ fun H2 e2 => h2 H2 (e.trans e2) _ fun p H3 hp e3 g3 => hs p H3 ((e.trans e2).trans e3) g3 H3 (Ex.refl H3) Q (fun r H4 hr e4 h4 => q r H4 (fresh_back (e2.trans e3) hr) ((e2.trans e3).trans e4) h4) E
theorem el_callLL {sp : Sp} {xs ys zs : List V} {E : XK} (h : EvL ta σ H xs) (h2 : EvL tb σ H ys) (hs : ∀ p q H1, Ex H H1 → H1 p = some (.lst xs) → H1 q = some (.lst ys) → SpL sp [.ref p, .ref q] H1 zs) : EvL (tCall sp [] E (tCons ta (tCons tb tNil))) σ H zs := fun H1 e Q q =>
  h H1 e _ fun p H2 hp e2 g2 => h2 H2 (e.trans e2) _ fun p' H3 hp' e3 g3 => hs p p' H3 ((e.trans e2).trans e3) (e3 _ _ g2) g3 H3 (Ex.refl H3) Q (fun r H4 hr e4 h4 => q r H4 (fresh_back (e2.trans e3) hr) ((e2.trans e3).trans e4) h4) E
theorem ew_mul {P1 P2 P : Int → Prop} (h1 : EvW a d1 ta σ H (fun v => ∃ r, v = .int r ∧ P1 r)) (h2 : EvW a d2 tb σ H (fun v => ∃ r, v = .int r ∧ P2 r)) (hc : ∀ x y, P1 x → P2 y → CMul x y) (h : ∀ x y, P1 x → P2 y → P (x * y)) :
    EvW a (d1 + d2) (tOp (rI CMul fun i j => .int (i * j)) ta tb) σ H (fun v => ∃ r, v = .int r ∧ P r) :=
  ew_op h1 h2 fun x y ⟨i, ei, p⟩ ⟨j, ej, p'⟩ => ⟨.int (i * j), fun H => by
    rw [ei, ej]
    exact rv_I (hc i j p p'), i * j, rfl, h i j p p'⟩
theorem ev_intB {b : Bool} (ha : Ev ta σ H (.bl b)) : Ev (tCB (fun xs H Q => (∃ i, xs = [.int i] ∧ Q (.int i) H) ∨ ∃ k, xs = [.bl k] ∧ Q (.int (if k then 1 else 0)) H) (tCons ta tNil)) σ H (.int (if b then 1 else 0)) := fun H1 e Q q =>
  ha H1 e _ fun H2 e2 => .inr ⟨b, rfl, q H2 e2⟩
end
theorem vi_of {P : Int → Prop} : ∀ {xs : List V}, (∀ x ∈ xs, ∃ z, x = V.int z ∧ P z) → ∃ cs, xs = vi cs ∧ ∀ z ∈ cs, P z
  | [], _ => ⟨[], rfl, fun _ h => nomatch h⟩
  | x :: xs, h => by
    obtain ⟨z, rfl, pz⟩ := h x List.mem_cons_self
    obtain ⟨cs, rfl, pc⟩ := vi_of fun y hy => h y (List.mem_cons_of_mem _ hy)
    refine ⟨z :: cs, rfl, fun y hy => ?_⟩
    rcases List.mem_cons.mp hy with e | hy
    · rw [e]
      exact pz
    · exact pc y hy
end Bk
namespace Bk
open PySem PySem.Spec PyProof.Rows L2 Evl
/-! ### xs[lo::step] -/
def stepV (xs : List V) (lo st : Option Int) : List V := (sliceRange (sliceBounds lo none st xs.length).1 (sliceBounds lo none st xs.length).2.1 (sliceBounds lo none st xs.length).2.2).filterMap fun i => xs[i]?
def rSlS (K : PySem.W.Frag) : V → Option Int → Option Int → Hp → VK → Prop := fun x lo st H Q => ∃ a xs, x = .ref a ∧ SqL K H a xs ∧ st ≠ some 0 ∧ ∀ p, H p = none → Q (.ref p) (upd H p (.lst (stepV xs lo st)))
def tSlS (r : V → Option Int → Option Int → Hp → VK → Prop) (te : TE) (tl ts : TO) : TE := fun σ H Q => te σ H fun x H1 => tl σ H1 fun l H2 => ts σ H2 fun c H3 => r x l c H3 Q
theorem pe_sliceS {X : Cx} {e : Expr} {te : TE} {lo : Option Expr} {st : Expr} {tl ts : TO} {pos p2 : Pos} (he : PE X e te) (hl : PO X lo tl) (hs : PO X (some st) ts) : PE X (.Subscript e (.Slice lo none (some st) p2) pos) (tSlS (rSlS X.K) te tl ts) := by
  refine ⟨fun pins s σ H Q I h => ?_⟩
  refine Subscript_ (thn (he.run pins s σ H _ I h) fun v s1 ⟨x, H1, I1, r1, q1⟩ => ?_)
  refine wpAny_Slice (thn (hl.run pins s1 σ H1 _ I1 q1) fun vl s2 ⟨l, H2, I2, pl, q2⟩ => ?_)
  rw [evalPart_none]
  refine wpAny_pure ?_
  refine thn (hs.run pins s2 σ H2 _ I2 q2) fun vs s3 ⟨c, H3, I3, ps, q3⟩ => ?_
  obtain ⟨a, xs, rfl, hx, h0, q⟩ := q3
  cases r1
  have I4 : Inv X pins σ H3 { s3 with heap := s3.heap.push { cls := .type "slice", data := .fields #[vl, .none, vs] } } := I3.kept (t' := s3.toks) fun b ob q => Heap.get?_push_of_some _ q
  obtain ⟨its, r, ht, hz⟩ := I4.list hx
  have hlen := r.length
  show wpAny (model X.prog X.w) X.A (subscriptTail e (.Slice lo none (some st) p2) (.ref a) (.ref s3.heap.objs.size)) (EP X pins σ Q) X.xe { s3 with heap := s3.heap.push { cls := .type "slice", data := .fields #[vl, .none, vs] } }
  refine tail_any (ops := [.ref a, .ref s3.heap.objs.size]) ht.isList.typeIs slot_list_getitem.lookup ?_ (by with_unfolding_all rfl)
  refine wpAny_getItem_list_slice ht.isList (Heap.IsSliceOf.new ..) pl .none ps h0 ?_ (by rw [List.size_toArray] <;> omega)
  have hv : Vals (stepV xs l c) ((sliceRange (sliceBounds l none c its.length).1 (sliceBounds l none c its.length).2.1 (sliceBounds l none c its.length).2.2).filterMap fun i => its[i]?) := by
    unfold stepV
    rw [hlen]
    exact vals_pick r _
  have hle := slicePick_size_le its.toArray l none c
  have hp : slicePick its.toArray l none c = ((sliceRange (sliceBounds l none c its.length).1 (sliceBounds l none c its.length).2.1 (sliceBounds l none c its.length).2.2).filterMap fun i => its[i]?).toArray := by
    unfold slicePick
    simp only [List.size_toArray, List.getElem?_toArray]
  rw [hp, List.size_toArray] at hle
  rw [hp]
  refine ⟨.ref _, _, I4.laid (t' := s3.toks) (o := .lst (stepV xs l c)) (fun b ob q => Heap.get?_push_of_some _ q) (Nat.le_refl _) ?_, rfl, q _ (I4.hok.fresh (Nat.le_refl _))⟩
  exact ⟨by rw [hv.length]; rw [List.size_toArray] at hle; omega, _, 0, hv, Heap.get?_push_size _ rfl⟩
theorem filterMap_all {α β : Type} {f : α → Option β} {g : α → β} : ∀ {l : List α}, (∀ i ∈ l, f i = some (g i)) → l.filterMap f = l.map g
  | [], _ => rfl
  | a :: l, h => by
    rw [List.filterMap_cons_some (h a List.mem_cons_self), filterMap_all fun i hi => h i (List.mem_cons_of_mem _ hi), List.map_cons]
theorem step_tab {xs : List Int} {c : Nat} (h0 : 1 ≤ c) (h1 : c ≤ xs.length) : stepV (vi xs) (some ((c : Int) - 1)) (some (c : Int)) = vi ((List.range (xs.length / c)).map fun i => xs.getD ((i + 1) * c - 1) 0) := by
  have eb : sliceBounds (some ((c : Int) - 1)) none (some (c : Int)) (vi xs).length = ((c : Int) - 1, (xs.length : Int), (c : Int)) := by
    rw [List.length_map]
    unfold sliceBounds
    simp only [Option.getD_some, show ¬ ((c : Int) - 1 < 0) by omega, show ((c : Int) > 0) by omega, if_true, if_false]
    rw [show max 0 (min ((c : Int) - 1) (xs.length : Int)) = (c : Int) - 1 by omega]
  unfold stepV
  rw [eb]
  show (sliceRange ((c : Int) - 1) (xs.length : Int) (c : Int)).filterMap _ = _
  have er : sliceRange ((c : Int) - 1) (xs.length : Int) (c : Int) = (List.range (xs.length / c)).map fun i => (i + 1) * c - 1 := by
    unfold sliceRange
    simp only [if_pos (show (c : Int) > 0 by omega), if_pos (show (c : Int) - 1 < (xs.length : Int) by omega)]
    rw [show ((xs.length : Int) - ((c : Int) - 1) + (c : Int) - 1) = (xs.length : Int) by omega, ← Int.natCast_ediv, Int.toNat_natCast]
    refine List.map_congr_left fun i _ => ?_
    have : ((c : Int) - 1 + (c : Int) * (i : Int)) = (((i + 1) * c : Nat) : Int) - 1 := by
      rw [Int.natCast_mul, Int.natCast_add, Int.add_mul, Int.mul_comm (c : Int)]
      omega
    show ((c : Int) - 1 + (c : Int) * (i : Int)).toNat = _
    rw [this]
    generalize (i + 1) * c = M
    omega
  rw [er, List.filterMap_map]
  unfold vi
  rw [List.map_map]
  refine filterMap_all fun i hi => ?_
  have hi := List.mem_range.mp hi
  have hle : (i + 1) * c ≤ xs.length := Nat.le_trans (Nat.mul_le_mul_right _ hi) (Nat.div_mul_le_self _ _)
  have hpos : 0 < (i + 1) * c := Nat.mul_pos (Nat.succ_pos i) (by omega)
  have hlt : (i + 1) * c - 1 < xs.length := by omega
  show (xs.map V.int)[(i + 1) * c - 1]? = some (V.int (xs.getD ((i + 1) * c - 1) 0))
  rw [List.getElem?_map, List.getD_eq_getElem?_getD, List.getElem?_eq_getElem hlt]
  rfl
section
variable {K : PySem.W.Frag} {σ : L2.St} {H : Hp} {ta tb te : TE}
theorem el_slS {a : Addr} {xs : List V} {tl ts : TO} {lo st : Option Int} (h : Ev te σ H (.ref a)) (h1 : EvO tl σ H lo) (h2 : EvO ts σ H st) (hx : SqL K H a xs) (h0 : st ≠ some 0) : EvL (tSlS (rSlS K) te tl ts) σ H (stepV xs lo st) := fun H1 e _ q =>
  h H1 e _ fun H2 e2 => h1 H2 (e.trans e2) _ fun H3 e3 => h2 H3 ((e.trans e2).trans e3) _ fun H4 e4 =>
    ⟨a, xs, rfl, ex_l (((e.trans e2).trans e3).trans e4) hx, h0, fun p hp => q p _ (fresh_back ((e2.trans e3).trans e4) hp) (((e2.trans e3).trans e4).trans (Ex.new hp)) upd_same⟩
end
end Bk
namespace Bk
open PySem PySem.Spec PyProof.Rows L2 Evl
/-! ### tuples compared -/
theorem rv_neT {K : PySem.W.Frag} {H : Hp} {p q : Addr} {ns ms : List Int} (h : SqT K H p (vi ns)) (h' : SqT K H q (vi ms)) : RV (rNeD K) (.ref p) (.ref q) H (.bl (!decide (ns = ms))) := fun H1 e Q k =>
  ⟨_, _, dp_tup (ex_t e h), dp_tup (ex_t e h'), shaped_t ns, shaped_t ms, by rw [eqv_t]; exact k H1 (Ex.refl H1)⟩
section
variable {K : PySem.W.Frag} {σ : L2.St} {H : Hp} {ta tb te : TE}
theorem ev_neUU {ns ms : List Int} (ha : EvU ta σ H (vi ns)) (hb : EvU tb σ H (vi ms)) : Ev (tOp (rNeD K) ta tb) σ H (.bl (!decide (ns = ms))) := fun H1 e Q k =>
  ha H1 e _ fun p H2 hp e2 h2 => hb H2 (e.trans e2) _ fun q H3 hq e3 h3 => rv_neT (st_of (e3 _ _ h2)) (st_of h3) H3 (Ex.refl H3) Q fun H4 e4 => k H4 ((e2.trans e3).trans e4)
theorem ev_neUT {p : Addr} {ns ms : List Int} (ha : EvU ta σ H (vi ns)) (hb : Ev tb σ H (.ref p)) (h : SqT K H p (vi ms)) : Ev (tOp (rNeD K) ta tb) σ H (.bl (!decide (ns = ms))) := fun H1 e Q k =>
  ha H1 e _ fun p H2 hp e2 h2 => hb H2 (e.trans e2) _ fun H3 e3 => rv_neT (st_of (e3 _ _ h2)) (ex_t ((e.trans e2).trans e3) h) H3 (Ex.refl H3) Q fun H4 e4 => k H4 ((e2.trans e3).trans e4)
end
section
variable {K : PySem.W.Frag} {σ : L2.St} {H : Hp} {ta tb te : TE} {a : Addr} {d1 d2 n : Nat} {D : Ends} {tz : TS}
theorem qw_tupUU {i j : Nat} {PA PB : List V → Prop} (h1 : EvWU a d1 ta σ H PA) (h2 : EvWU a d2 tb σ H PB) (w : Well H a n) (hl : n + (d1 + d2) ≤ 2 ^ 50)
    (k : ∀ p q xs ys H1, H p = none → H q = none → But a H H1 → Well H1 a (n + (d1 + d2)) → H1 p = some (.tup xs) → H1 q = some (.tup ys) → PA xs → PB ys → tz D ((σ.set i (some (.ref p))).set j (some (.ref q))) H1) :
    tSeq (tAsg (tTup (tCons ta (tCons tb tNil))) (gTup K 2 (gCons (gName i) (gCons (gName j) gNil)))) tz D σ H :=
  h1 n H (But.refl a H) w (by omega) _ fun p xs H2 hp b2 w2 g2 pa => h2 (n + d1) H2 b2 w2 (by omega) _ fun q ys H3 hq b3 w3 g3 pb => ⟨sz_of (by show 2 ≤ 100000; decide), fun r hr => ⟨r, _, rfl, st_of upd_same, rfl, _, _, rfl, _, _, rfl, rfl, by
    refine k p q xs ys _ hp (but_free b2 w2 hq) ((b2.trans b3).trans (But.new hr)) ?_ (Ex.new hr _ _ (b3 _ _ (w.ne hp) g2)) (Ex.new hr _ _ g3) pa pb
    rw [← Nat.add_assoc]
    exact w3.ex (Ex.new hr)⟩⟩
theorem qw_parVV {i j : Nat} {PA PB : V → Prop} (h1 : EvW a d1 ta σ H PA) (h2 : EvW a d2 tb σ H PB) (w : Well H a n) (hl : n + (d1 + d2) ≤ 2 ^ 50)
    (k : ∀ x y H1, But a H H1 → Well H1 a (n + (d1 + d2)) → PA x → PB y → tz D ((σ.set i (some x)).set j (some y)) H1) :
    tSeq (tPar i j (tCons ta (tCons tb tNil))) tz D σ H :=
  h1 n H (But.refl a H) w (by omega) _ fun x H2 b2 w2 pa => h2 (n + d1) H2 b2 w2 (by omega) _ fun y H3 b3 w3 pb => ⟨_, _, rfl, k x y _ (b2.trans b3) (by
    rw [← Nat.add_assoc]
    exact w3) pa pb⟩
theorem el_callUV {sp : Sp} {xs ys : List V} {y : V} {E : XK} (h : EvU ta σ H xs) (h2 : ∀ p H1, Ex H H1 → H1 p = some (.tup xs) → Ev tb σ H1 y) (hs : ∀ p H1, Ex H H1 → H1 p = some (.tup xs) → SpL sp [.ref p, y] H1 ys) : EvL (tCall sp [] E (tCons ta (tCons tb tNil))) σ H ys := fun H1 e Q q =>
  h H1 e _ fun p H2 hp e2 g2 => h2 p H2 (e.trans e2) g2 H2 (Ex.refl H2) _ fun H3 e3 => hs p H3 ((e.trans e2).trans e3) (e3 _ _ g2) H3 (Ex.refl H3) Q (fun r H4 hr e4 h4 => q r H4 (fresh_back (e2.trans e3) hr) ((e2.trans e3).trans e4) h4) E
end
section
variable {X : Cx} {K : PySem.W.Frag} {o e : Expr} {es : List Expr} {to : TE} {t : TA} {name : Str} {apos cpos : Pos} {T id : String} {r : V → List V → Hp → VK → Prop}
theorem pe_bmK (h : X.K = K) (pa : PlainAttrs T) (slot : Slot T name id) (hty : typeOf (.builtin id) = pure (.type "method_descriptor")) (hm : MtR X id r) (ho : PE X o to) (ha : PA X (e :: es) t)
    (hbase : attributeBase o name X.env (eval o X.env) = eval o X.env := by rfl)
    (hfew : ((backTo cpos (starEach (e :: es) X.env)).all (fun x => !x.1) && (backToKw cpos (keywordEach [] X.env)).all (fun x => x.1.isSome)
      && decide ((e :: es).length + ([] : List Keyword).length + (if ([] : List Keyword).isEmpty then 0 else 1) < 30)) = true := by rfl)
    (hline : (apos.endLine == cpos.line) = true := by rfl) (hs : starEach (e :: es) X.env = (false, eval e X.env) :: starEach es X.env := by rfl) (hplain : (backTo cpos (starEach es X.env)).any (·.1) = false := by rfl) :
    PE X (.Call (.Attribute o name apos) (e :: es) [] cpos) (tBM K T r to t) := by
  subst h
  exact pe_bm pa slot hty hm ho ha hbase hfew hline hs hplain
end
end Bk
namespace My
open PySem PySem.Spec PyProof.Rows L2 Evl Bk

/-! ### rings in drawn places -/
theorem cut_mid {xs : List V} {a l : Nat} (h : a + l ≤ xs.length) : cutV xs (some (a : Int)) (some ((a : Int) + (l : Int))) = (xs.drop a).take l := by
  unfold cutV
  rw [show (a : Int) + (l : Int) = ((a + l : Nat) : Int) by omega, HT.sIx_nat, HT.sIx_nat, Nat.min_eq_left h, Nat.min_eq_left (show a ≤ xs.length by omega)]
  congr 1
  omega
theorem erase_perm {ps : List Int} {k : Nat} (h : k < ps.length) : (ps[k] :: ps.eraseIdx k).Perm ps := by
  induction ps generalizing k with
  | nil => exact absurd h (Nat.not_lt_zero _)
  | cons a r ih =>
    cases k with
    | zero => exact List.Perm.refl _
    | succ k =>
      have hk : k < r.length := by simpa using h
      have := ih (k := k) hk
      exact (List.Perm.swap a r[k] (r.eraseIdx k)).trans (List.Perm.cons a this)
def look (F : List Int) (q : Int) : Int := F.getD q.toNat 0
theorem look_set_same {F : List Int} {k : Nat} {x : Int} (h : k < F.length) : look (F.set k x) (k : Int) = x := by
  unfold look
  rw [Int.toNat_natCast, List.getD_eq_getElem?_getD, List.getElem?_set_self h]
  rfl
theorem look_set_ne {F : List Int} {k : Nat} {x q : Int} (h0 : 0 ≤ q) (h : q ≠ (k : Int)) : look (F.set k x) q = look F q := by
  unfold look
  rw [List.getD_eq_getElem?_getD, List.getD_eq_getElem?_getD, List.getElem?_set_ne (by omega)]
def RingInv (pl F : List Int) (at' : Nat) : Prop := F.length = pl.length ∧ ((pl.take at').map (look F)).Perm (pl.take at')
theorem rot_perm (l : List Int) (n : Nat) (h : 0 < n) (hl : l.length = n) : ((List.range n).map fun j => l.getD ((j + 1) % n) 0).Perm l := by
  cases l with
  | nil =>
    rw [List.length_nil] at hl
    omega
  | cons a r =>
    have e : ((List.range n).map fun j => (a :: r).getD ((j + 1) % n) 0) = r ++ [a] := by
      refine List.ext_getElem? fun i => ?_
      rw [List.length_cons] at hl
      rw [List.getElem?_map, List.getElem?_append]
      by_cases hi : i < r.length
      · rw [if_pos hi, List.getElem?_range (by omega)]
        show some ((a :: r).getD ((i + 1) % n) 0) = _
        rw [Nat.mod_eq_of_lt (by omega), List.getD_eq_getElem?_getD, List.getElem?_cons_succ, List.getElem?_eq_getElem hi]
        rfl
      · rw [if_neg hi]
        by_cases hj : i = r.length
        · rw [List.getElem?_range (by omega)]
          show some ((a :: r).getD ((i + 1) % n) 0) = _
          rw [show i + 1 = n by omega, Nat.mod_self, show i - r.length = 0 by omega]
          rfl
        · rw [List.getElem?_eq_none (by rw [List.length_range]; omega), List.getElem?_eq_none (by rw [List.length_singleton]; omega)]
          rfl
    rw [e]
    exact List.perm_append_comm (l₁ := r) (l₂ := [a])
theorem ring_step {pl F F' : List Int} {at' len : Nat} (h : RingInv pl F at') (hl : 0 < len) (ha : at' + len ≤ pl.length) (h1 : F'.length = pl.length)
    (h2 : ∀ q ∈ pl.take at', look F' q = look F q) (h3 : ∀ j, j < len → look F' (pl.getD (at' + j) 0) = pl.getD (at' + (j + 1) % len) 0) : RingInv pl F' (at' + len) := by
  refine ⟨h1, ?_⟩
  have e : pl.take (at' + len) = pl.take at' ++ (pl.drop at').take len := List.take_add
  rw [e, List.map_append]
  refine List.Perm.append ?_ ?_
  · rw [List.map_congr_left h2]
    exact h.2
  · have hlen : ((pl.drop at').take len).length = len := by
      rw [List.length_take, List.length_drop]
      omega
    refine List.Perm.trans (List.Perm.of_eq ?_) (rot_perm ((pl.drop at').take len) len hl hlen)
    refine List.ext_getElem? fun i => ?_
    rw [List.getElem?_map, List.getElem?_map]
    by_cases hi : i < len
    · have m : (i + 1) % len < len := Nat.mod_lt _ hl
      have g1 : ((pl.drop at').take len)[i]? = some (pl.getD (at' + i) 0) := by
        rw [List.getElem?_take_of_lt hi, List.getElem?_drop, List.getD_eq_getElem?_getD, List.getElem?_eq_getElem (show at' + i < pl.length by omega)]
        rfl
      have g2 : ((pl.drop at').take len).getD ((i + 1) % len) 0 = pl.getD (at' + (i + 1) % len) 0 := by
        rw [List.getD_eq_getElem?_getD, List.getElem?_take_of_lt m, List.getElem?_drop, List.getD_eq_getElem?_getD]
      rw [g1, List.getElem?_range hi]
      show some (look F' (pl.getD (at' + i) 0)) = some (((pl.drop at').take len).getD ((i + 1) % len) 0)
      rw [h3 i hi, g2]
    · rw [List.getElem?_eq_none (by omega), List.getElem?_eq_none (by rw [List.length_range]; omega)]
      rfl
theorem look_iota {F : List Int} {m : Nat} (h : F.length = m) : (iota m).map (look F) = F := by
  refine List.ext_getElem? fun i => ?_
  unfold iota
  rw [List.map_map, List.getElem?_map]
  by_cases hi : i < m
  · rw [List.getElem?_range hi, List.getElem?_eq_getElem (show i < F.length by omega)]
    show some (look F (i : Int)) = _
    unfold look
    rw [Int.toNat_natCast, List.getD_eq_getElem?_getD, List.getElem?_eq_getElem (show i < F.length by omega)]
    rfl
  · rw [List.getElem?_eq_none (by rw [List.length_range]; omega), List.getElem?_eq_none (by omega)]
    rfl
theorem ring_end {pl F : List Int} (hp : Shf pl) (h : RingInv pl F pl.length) : Shf F := by
  obtain ⟨h1, h2⟩ := h
  rw [List.take_of_length_le (Nat.le_refl _)] at h2
  refine ⟨by rw [h1]; exact hp.1, by rw [h1]; exact hp.2.1, ?_⟩
  have e := hp.2.2.map (look F)
  rw [look_iota h1] at e
  rw [h1]
  exact (e.symm.trans h2).trans hp.2.2
theorem Shf.get {ns : List Int} (h : Shf ns) {i : Nat} (hi : i < ns.length) : ∃ k : Nat, ns[i]? = some (k : Int) ∧ ns.getD i 0 = (k : Int) ∧ k < ns.length := by
  have m := h.mem (List.getElem_mem hi)
  refine ⟨ns[i].toNat, ?_, ?_, by omega⟩
  · rw [List.getElem?_eq_getElem hi, Int.toNat_of_nonneg m.1]
  · rw [List.getD_eq_getElem?_getD, List.getElem?_eq_getElem hi, Int.toNat_of_nonneg m.1]
    rfl
theorem Shf.inj {ns : List Int} (h : Shf ns) {i j : Nat} (hi : i < ns.length) (hj : j < ns.length) (e : ns.getD i 0 = ns.getD j 0) : i = j := by
  rw [List.getD_eq_getElem?_getD, List.getD_eq_getElem?_getD, List.getElem?_eq_getElem hi, List.getElem?_eq_getElem hj] at e
  exact (List.getElem_inj h.nodup).mp e

/-! ### great shuffles -/
def stepsL (size step : Nat) : List Int := (List.range size).map fun k : Nat => ((k * step % size : Nat) : Int)
theorem stepsL_length (size step : Nat) : (stepsL size step).length = size := by simp [stepsL]
theorem steps_shf {size step : Nat} (h0 : 0 < size) (h1 : size ≤ 300) (hc : Nat.Coprime size step) : Shf (stepsL size step) := by
  have hl := stepsL_length size step
  refine ⟨by omega, by omega, ?_⟩
  rw [hl]
  refine perm_iota ?_ ?_ hl
  · show List.Pairwise _ _
    refine List.pairwise_iff_getElem.mpr fun i j hi hj hij e => ?_
    unfold stepsL at e hi hj
    rw [List.length_map, List.length_range] at hi hj
    simp only [List.getElem_map, List.getElem_range] at e
    have e1 : j * step % size = i * step % size := by omega
    have e2 := Nat.dvd_of_mod_eq_zero (Nat.sub_mod_eq_zero_of_mod_eq e1)
    rw [← Nat.mul_sub_right_distrib] at e2
    have e3 := hc.dvd_of_dvd_mul_right e2
    have := Nat.eq_zero_of_dvd_of_lt e3 (by omega)
    omega
  · intro x hx
    obtain ⟨k, _, rfl⟩ := List.mem_map.mp hx
    have := Nat.mod_lt (k * step) h0
    omega
theorem cop293 : ∀ s : Nat, s < 293 → 0 < s → Nat.gcd 293 s = 1 := by decide +kernel
theorem cop_one (n : Nat) : Nat.Coprime n 1 := Nat.gcd_one_right n
theorem cop_pred {n : Nat} (h : 0 < n) : Nat.Coprime n (n - 1) := by
  have a := Nat.dvd_sub (Nat.gcd_dvd_left n (n - 1)) (Nat.gcd_dvd_right n (n - 1))
  rw [show n - (n - 1) = 1 by omega] at a
  exact Nat.dvd_one.mp a
theorem iota_look {m : Nat} {q : Int} (h0 : 0 ≤ q) (h1 : q < m) : look (iota m) q = q := by
  unfold look iota
  rw [List.getD_eq_getElem?_getD, List.getElem?_map, List.getElem?_range (by omega)]
  show ((q.toNat : Nat) : Int) = q
  omega
theorem ring_rest {pl F : List Int} {t : Nat} (hp : Shf pl) (h : RingInv pl F t) (hd : ∀ q ∈ pl.drop t, look F q = q) : Shf F := by
  refine ring_end hp ⟨h.1, ?_⟩
  rw [List.take_of_length_le (Nat.le_refl _)]
  have e : (pl.take t ++ pl.drop t).map (look F) = (pl.take t).map (look F) ++ pl.drop t := by
    rw [List.map_append]
    congr 1
    rw [List.map_congr_left hd, List.map_id']
  have p := List.Perm.append_right (pl.drop t) h.2
  rw [← e, List.take_append_drop] at p
  exact p

/-! ### side by side -/
def besL (xs ys : List Int) : List Int := xs ++ ys.map fun y => (xs.length : Int) + y
theorem besL_length (xs ys : List Int) : (besL xs ys).length = xs.length + ys.length := by simp [besL]
theorem bes_shf {xs ys : List Int} (hx : Shf xs) (hy : Shf ys) (h : xs.length + ys.length ≤ 300) : Shf (besL xs ys) := by
  have x0 := hx.1
  refine ⟨by rw [besL_length]; omega, by rw [besL_length]; exact h, ?_⟩
  rw [besL_length]
  have e : iota (xs.length + ys.length) = iota xs.length ++ (iota ys.length).map fun y => (xs.length : Int) + y := by
    unfold iota
    rw [List.range_add, List.map_append, List.map_map, List.map_map]
    rfl
  rw [e]
  exact hx.2.2.append (hy.2.2.map _)
theorem bes_assoc (xs ys zs : List Int) : besL (besL xs ys) zs = besL xs (besL ys zs) := by
  unfold besL
  rw [List.append_assoc, List.map_append, List.map_map]
  congr 2
  refine List.map_congr_left fun z _ => ?_
  show (((xs ++ ys.map fun y => (xs.length : Int) + y).length : Nat) : Int) + z = (xs.length : Int) + ((ys.length : Int) + z)
  rw [List.length_append, List.length_map]
  omega
theorem bes_at (xs ys : List Int) {i : Nat} (h : i < xs.length) : (besL xs ys)[i]? = some (xs.getD i 0) := by
  unfold besL
  rw [List.getElem?_append_left h, List.getD_eq_getElem?_getD, List.getElem?_eq_getElem h]
  rfl
theorem bes_at' (xs ys : List Int) {i : Nat} (h : i < ys.length) : (besL xs ys)[xs.length + i]? = some ((xs.length : Int) + ys.getD i 0) := by
  unfold besL
  rw [List.getElem?_append_right (Nat.le_add_right _ _), Nat.add_sub_cancel_left, List.getElem?_map, List.getD_eq_getElem?_getD, List.getElem?_eq_getElem h]
  rfl
theorem take_vi {xs : List Int} {i : Nat} {x : Int} (h : xs[i]? = some x) : vi (xs.take i) ++ [.int x] = vi (xs.take (i + 1)) := by
  rw [List.take_succ, h]
  unfold vi
  rw [List.map_append]
  rfl
theorem given_map (ys : List Int) (g : Int → Int) : given (vi ys).length (fun _ => true) (fun i => V.int (g (ys.getD i 0))) = vi (ys.map g) := by
  rw [List.length_map, given_all]
  unfold vi
  refine List.ext_getElem? fun i => ?_
  rw [List.getElem?_map, List.getElem?_map, List.getElem?_map]
  by_cases hi : i < ys.length
  · rw [List.getElem?_range hi, List.getElem?_eq_getElem hi]
    show some (V.int (g (ys.getD i 0))) = _
    rw [List.getD_eq_getElem?_getD, List.getElem?_eq_getElem hi]
    rfl
  · rw [List.getElem?_eq_none (by rw [List.length_range]; omega), List.getElem?_eq_none (by omega)]
    rfl
theorem vi_ne {xs : List Int} (h : 0 < xs.length) : vi xs ≠ [] := fun e => by
  rw [List.map_eq_nil_iff.mp e] at h
  exact Nat.lt_irrefl _ h
theorem iota_shf {m : Nat} (h0 : 0 < m) (h1 : m ≤ 300) : Shf (iota m) := ⟨by rw [iota_length]; exact h0, by rw [iota_length]; exact h1, by rw [iota_length]⟩

/-! ### pairs -/
theorem range_add' (a b : Nat) : List.range (a + b) = List.range a ++ (List.range b).map (a + ·) := List.range_add
def pairL (xs ys : List Int) : List Int := (List.range (xs.length * ys.length)).map fun p => xs.getD (p / ys.length) 0 * (ys.length : Int) + ys.getD (p % ys.length) 0
theorem flat2_div (n m : Nat) (h : 0 < m) (v : Nat → Nat → V) : flat2 n m v = (List.range (n * m)).map fun p => v (p / m) (p % m) := by
  induction n with
  | zero => simp [flat2]
  | succ n ih =>
    rw [flat2_succ, ih, Nat.succ_mul, range_add', List.map_append, List.map_map]
    congr 1
    refine List.map_congr_left fun j hj => ?_
    have hj := List.mem_range.mp hj
    show v n j = v ((n * m + j) / m) ((n * m + j) % m)
    rw [Nat.mul_comm n m, Nat.mul_add_div h, Nat.div_eq_of_lt hj, Nat.mul_add_mod, Nat.mod_eq_of_lt hj, Nat.add_zero]
theorem pairL_length (xs ys : List Int) : (pairL xs ys).length = xs.length * ys.length := by simp [pairL]
theorem Shf.getD_lt {ns : List Int} (h : Shf ns) (i : Nat) : 0 ≤ ns.getD i 0 ∧ ns.getD i 0 < ns.length := by
  by_cases hi : i < ns.length
  · obtain ⟨k, _, e, l⟩ := Shf.get h hi
    omega
  · rw [List.getD_eq_getElem?_getD, List.getElem?_eq_none (by omega)]
    have := h.1
    show 0 ≤ (0 : Int) ∧ (0 : Int) < _
    omega
theorem pair_lt {n m x y : Int} (h0 : 0 ≤ x) (h1 : x < n) (h2 : 0 ≤ y) (h3 : y < m) : 0 ≤ x * m + y ∧ x * m + y < n * m := by
  have a : 0 ≤ x * m := Int.mul_nonneg h0 (by omega)
  have b : (x + 1) * m ≤ n * m := Int.mul_le_mul_of_nonneg_right (by omega) (by omega)
  rw [Int.add_mul] at b
  omega
theorem pair_wide {xs ys : List Int} (hx : Shf xs) (hy : Shf ys) (h : xs.length * ys.length ≤ 300) : wide 1900 (pairL xs ys) ∧ (pairL xs ys).length ≤ 4000 := by
  refine ⟨(wide_lt (k := 20) (by decide) fun n hn => ?_).mono (by decide), by rw [pairL_length]; omega⟩
  obtain ⟨p, hp, rfl⟩ := List.mem_map.mp hn
  obtain ⟨a0, a1⟩ := Shf.getD_lt hx (p / ys.length)
  obtain ⟨b0, b1⟩ := Shf.getD_lt hy (p % ys.length)
  obtain ⟨c0, c1⟩ := pair_lt a0 a1 b0 b1
  have : (xs.length : Int) * (ys.length : Int) ≤ 300 := by
    rw [← Int.natCast_mul]
    omega
  omega
theorem pairL_getD {xs ys : List Int} {p : Nat} (h : p < xs.length * ys.length) : (pairL xs ys).getD p 0 = xs.getD (p / ys.length) 0 * (ys.length : Int) + ys.getD (p % ys.length) 0 := by
  unfold pairL
  rw [List.getD_eq_getElem?_getD, List.getElem?_map, List.getElem?_range h]
  rfl
theorem pair_one (xs : List Int) : pairL [0] xs = xs := by
  refine List.ext_getElem? fun i => ?_
  unfold pairL
  rw [List.getElem?_map]
  by_cases hi : i < xs.length
  · rw [List.getElem?_range (by simpa using hi), List.getElem?_eq_getElem hi]
    show some (([0] : List Int).getD (i / xs.length) 0 * (xs.length : Int) + xs.getD (i % xs.length) 0) = _
    rw [Nat.div_eq_of_lt hi, Nat.mod_eq_of_lt hi, List.getD_eq_getElem?_getD, List.getD_eq_getElem?_getD, List.getElem?_eq_getElem hi]
    show some ((0 : Int) * (xs.length : Int) + xs[i]) = _
    rw [Int.zero_mul, Int.zero_add]
  · rw [List.getElem?_eq_none (by simpa using hi), List.getElem?_eq_none (by omega)]
    rfl
theorem pair_one' (xs : List Int) : pairL xs [0] = xs := by
  refine List.ext_getElem? fun i => ?_
  unfold pairL
  rw [List.getElem?_map]
  by_cases hi : i < xs.length
  · rw [List.getElem?_range (by simpa using hi), List.getElem?_eq_getElem hi]
    show some (xs.getD (i / 1) 0 * ((1 : Nat) : Int) + ([0] : List Int).getD (i % 1) 0) = _
    rw [Nat.div_one, Nat.mod_one, List.getD_eq_getElem?_getD, List.getElem?_eq_getElem hi]
    show some (xs[i] * ((1 : Nat) : Int) + 0) = _
    rw [Int.add_zero, show ((1 : Nat) : Int) = 1 from rfl, Int.mul_one]
  · rw [List.getElem?_eq_none (by simpa using hi), List.getElem?_eq_none (by omega)]
    rfl
/-- the other way round -/
def turnIx (n m p : Nat) : Nat := p % m * n + p / m
theorem turnIx_lt {n m p : Nat} (h : p < n * m) : turnIx n m p < m * n := by
  have hm : 0 < m := by
    cases m with
    | zero => rw [Nat.mul_zero] at h; exact absurd h (Nat.not_lt_zero _)
    | succ m => exact Nat.succ_pos m
  have a : p % m < m := Nat.mod_lt _ hm
  have b : p / m < n := Nat.div_lt_of_lt_mul (by rw [Nat.mul_comm]; exact h)
  have c : (p % m + 1) * n ≤ m * n := Nat.mul_le_mul_right _ a
  rw [Nat.succ_mul] at c
  unfold turnIx
  omega
theorem turnIx_back {n m q : Nat} (h : q < m * n) : ∃ p, p < n * m ∧ turnIx n m p = q := by
  have hn : 0 < n := by
    cases n with
    | zero => rw [Nat.mul_zero] at h; exact absurd h (Nat.not_lt_zero _)
    | succ n => exact Nat.succ_pos n
  have a : q % n < n := Nat.mod_lt _ hn
  have b : q / n < m := Nat.div_lt_of_lt_mul (by rw [Nat.mul_comm]; exact h)
  have hm : 0 < m := Nat.lt_of_le_of_lt (Nat.zero_le _) b
  refine ⟨q % n * m + q / n, ?_, ?_⟩
  · have c : (q % n + 1) * m ≤ n * m := Nat.mul_le_mul_right _ a
    rw [Nat.succ_mul] at c
    omega
  · unfold turnIx
    rw [Nat.mul_comm (q % n) m, Nat.mul_add_mod, Nat.mod_eq_of_lt b, Nat.mul_add_div hm, Nat.div_eq_of_lt b, Nat.add_zero, Nat.mul_comm]
    exact Nat.div_add_mod q n
theorem turn_val {xs ys : List Int} (hx : Shf xs) (hy : Shf ys) {p : Nat} (h : p < xs.length * ys.length) :
    (pairL xs ys).getD p 0 % (ys.length : Int) * (xs.length : Int) + (pairL xs ys).getD p 0 / (ys.length : Int) = (pairL ys xs).getD (turnIx xs.length ys.length p) 0 := by
  have hm : 0 < ys.length := hy.1
  have hn : 0 < xs.length := hx.1
  obtain ⟨a0, a1⟩ := Shf.getD_lt hx (p / ys.length)
  obtain ⟨b0, b1⟩ := Shf.getD_lt hy (p % ys.length)
  have b : p / ys.length < xs.length := Nat.div_lt_of_lt_mul (by rw [Nat.mul_comm]; exact h)
  rw [pairL_getD h, pairL_getD (turnIx_lt h)]
  have e1 : turnIx xs.length ys.length p / xs.length = p % ys.length := by
    unfold turnIx
    rw [Nat.mul_comm (p % ys.length) xs.length, Nat.mul_add_div hn, Nat.div_eq_of_lt b, Nat.add_zero]
  have e2 : turnIx xs.length ys.length p % xs.length = p / ys.length := by
    unfold turnIx
    rw [Nat.mul_comm (p % ys.length) xs.length, Nat.mul_add_mod, Nat.mod_eq_of_lt b]
  rw [e1, e2]
  generalize xs.getD (p / ys.length) 0 = x at *
  generalize ys.getD (p % ys.length) 0 = y at *
  have e3 : (x * (ys.length : Int) + y) % (ys.length : Int) = y := by
    rw [Int.add_comm, Int.mul_comm x, Int.add_mul_emod_self_left, Int.emod_eq_of_lt b0 b1]
  have e4 : (x * (ys.length : Int) + y) / (ys.length : Int) = x := by
    rw [Int.add_comm, Int.add_mul_ediv_right _ _ (by omega), Int.ediv_eq_zero_of_lt b0 b1, Int.zero_add]
  rw [e3, e4]
theorem turn_end {xs ys F : List Int} (hl : F.length = xs.length * ys.length) (h : ∀ p, p < xs.length * ys.length → F.getD (turnIx xs.length ys.length p) 0 = (pairL ys xs).getD (turnIx xs.length ys.length p) 0) : F = pairL ys xs := by
  refine List.ext_getElem? fun i => ?_
  by_cases hi : i < ys.length * xs.length
  · obtain ⟨p, hp, e⟩ := turnIx_back (n := xs.length) (m := ys.length) hi
    have := h p hp
    rw [e, List.getD_eq_getElem?_getD, List.getD_eq_getElem?_getD] at this
    have l1 : i < F.length := by rw [hl, Nat.mul_comm]; exact hi
    have l2 : i < (pairL ys xs).length := by rw [pairL_length]; exact hi
    rw [List.getElem?_eq_getElem l1, List.getElem?_eq_getElem l2] at this ⊢
    exact congrArg some this
  · rw [List.getElem?_eq_none (by rw [hl, Nat.mul_comm]; omega), List.getElem?_eq_none (by rw [pairL_length]; omega)]

/-! ### rings of a shuffle -/
def nx (ds : List Int) (i : Nat) : Nat := (ds.getD i 0).toNat
def orb (ds : List Int) (i : Nat) : Nat → Nat
  | 0 => i
  | t + 1 => nx ds (orb ds i t)
theorem nx_at {ds : List Int} (h : Shf ds) {i : Nat} (hi : i < ds.length) : (vi ds)[i]? = some (.int (nx ds i : Int)) := by
  obtain ⟨k, e1, e2, _⟩ := Shf.get h hi
  unfold nx vi
  rw [List.getElem?_map, e1, e2, Int.toNat_natCast]
  rfl
theorem nx_get {ds : List Int} (h : Shf ds) {i : Nat} (hi : i < ds.length) : ds.getD i 0 = (nx ds i : Int) := by
  obtain ⟨k, e1, e2, _⟩ := Shf.get h hi
  unfold nx
  rw [e2, Int.toNat_natCast]
theorem nx_lt {ds : List Int} (h : Shf ds) {i : Nat} (hi : i < ds.length) : nx ds i < ds.length := by
  obtain ⟨k, e1, e2, l⟩ := Shf.get h hi
  unfold nx
  rw [e2, Int.toNat_natCast]
  exact l
theorem nx_inj {ds : List Int} (h : Shf ds) {i j : Nat} (hi : i < ds.length) (hj : j < ds.length) (e : nx ds i = nx ds j) : i = j :=
  Shf.inj h hi hj (by rw [nx_get h hi, nx_get h hj, e])
theorem orb_lt {ds : List Int} (h : Shf ds) {i : Nat} (hi : i < ds.length) : ∀ t, orb ds i t < ds.length
  | 0 => hi
  | t + 1 => nx_lt h (orb_lt h hi t)
theorem orb_add (ds : List Int) (i a : Nat) : ∀ b, orb ds i (a + b) = orb ds (orb ds i a) b
  | 0 => rfl
  | b + 1 => by
    show nx ds (orb ds i (a + b)) = nx ds (orb ds (orb ds i a) b)
    rw [orb_add ds i a b]
structure IsRing (ds : List Int) (r : List Nat) : Prop where
  pos : 0 < r.length
  nd : r.Nodup
  lt : ∀ i ∈ r, i < ds.length
  nxt : ∀ j, j < r.length → nx ds (r.getD j 0) = r.getD ((j + 1) % r.length) 0
theorem getD_of {r : List Nat} {j : Nat} (h : j < r.length) : r.getD j 0 = r[j] := by
  rw [List.getD_eq_getElem?_getD, List.getElem?_eq_getElem h]
  rfl
theorem IsRing.orb {ds : List Int} {r : List Nat} (h : IsRing ds r) {j : Nat} (hj : j < r.length) : ∀ t, My.orb ds (r.getD j 0) t = r.getD ((j + t) % r.length) 0
  | 0 => by
    rw [Nat.add_zero, Nat.mod_eq_of_lt hj]
    rfl
  | t + 1 => by
    show nx ds (My.orb ds (r.getD j 0) t) = _
    rw [h.orb hj t, h.nxt _ (Nat.mod_lt _ h.pos), Nat.mod_add_mod, Nat.add_assoc]
theorem IsRing.ix {ds : List Int} {r : List Nat} (h : IsRing ds r) {a b : Nat} (ha : a < r.length) (hb : b < r.length) (e : r.getD a 0 = r.getD b 0) : a = b := by
  rw [getD_of ha, getD_of hb] at e
  exact (List.getElem_inj h.nd).mp e
theorem mod_back {j t n : Nat} (hj : j < n) : (j + t) % n = j ↔ t % n = 0 := by
  have hn : 0 < n := by omega
  have h := Nat.mod_lt t hn
  rw [← Nat.add_mod_mod]
  by_cases c : j + t % n < n
  · rw [Nat.mod_eq_of_lt c]
    omega
  · rw [Nat.mod_eq_sub_mod (by omega), Nat.mod_eq_of_lt (by omega)]
    omega
theorem IsRing.back {ds : List Int} {r : List Nat} (h : IsRing ds r) {j : Nat} (hj : j < r.length) (t : Nat) : My.orb ds (r.getD j 0) t = r.getD j 0 ↔ t % r.length = 0 := by
  rw [h.orb hj t]
  refine Iff.trans ⟨fun e => h.ix (Nat.mod_lt _ h.pos) hj e, fun e => by rw [e]⟩ (mod_back hj)
theorem IsRing.mem {ds : List Int} {r : List Nat} {i : Nat} (hi : i ∈ r) : ∃ j, j < r.length ∧ r.getD j 0 = i := by
  obtain ⟨j, hj, e⟩ := List.getElem_of_mem hi
  exact ⟨j, hj, by rw [getD_of hj, e]⟩
theorem IsRing.fro {ds : List Int} (hs : Shf ds) {r : List Nat} (h : IsRing ds r) {x : Nat} (hx : x < ds.length) (hm : nx ds x ∈ r) : x ∈ r := by
  obtain ⟨k, hk, e⟩ := IsRing.mem (ds := ds) hm
  have hp := h.pos
  have hl : (k + r.length - 1) % r.length < r.length := Nat.mod_lt _ hp
  have e2 := h.nxt _ hl
  rw [Nat.mod_add_mod, show k + r.length - 1 + 1 = k + r.length by omega, Nat.add_mod_right, Nat.mod_eq_of_lt hk, e] at e2
  have hr : r.getD ((k + r.length - 1) % r.length) 0 ∈ r := by
    rw [getD_of hl]
    exact List.getElem_mem hl
  rw [← nx_inj hs (h.lt _ hr) hx e2]
  exact hr
/-- the first turn behind which i is back -/
def wt (ds : List Int) (i : Nat) : Nat → Nat × Nat
  | 0 => (nx ds i, 1)
  | k + 1 => if (wt ds i k).1 = i then wt ds i k else (nx ds (wt ds i k).1, (wt ds i k).2 + 1)
def per (ds : List Int) (i : Nat) : Nat := (wt ds i ds.length).2
theorem nlen_le {n : Nat} {l : List Nat} (hn : l.Nodup) (h : ∀ x ∈ l, x < n) : l.length ≤ n := by
  have := len_le (n := n) (l := l.map fun k : Nat => (k : Int)) (List.Pairwise.map _ (fun a b (hab : a ≠ b) => by
    intro e
    exact hab (Int.ofNat.inj e)) hn) fun x hx => by
    obtain ⟨k, hk, rfl⟩ := List.mem_map.mp hx
    have := h k hk
    omega
  rw [List.length_map] at this
  exact this
theorem IsRing.wt {ds : List Int} {r : List Nat} (h : IsRing ds r) {j : Nat} (hj : j < r.length) : ∀ k, My.wt ds (r.getD j 0) k = (My.orb ds (r.getD j 0) (min r.length (k + 1)), min r.length (k + 1))
  | 0 => by
    have hp := h.pos
    rw [show min r.length (0 + 1) = 1 by omega]
    rfl
  | k + 1 => by
    have hp := h.pos
    show (if (My.wt ds (r.getD j 0) k).1 = r.getD j 0 then My.wt ds (r.getD j 0) k else (nx ds (My.wt ds (r.getD j 0) k).1, (My.wt ds (r.getD j 0) k).2 + 1)) = _
    rw [h.wt hj k]
    by_cases c : r.length ≤ k + 1
    · rw [show min r.length (k + 1) = r.length by omega, show min r.length (k + 1 + 1) = r.length by omega, if_pos ((h.back hj r.length).mpr (Nat.mod_self _))]
    · rw [show min r.length (k + 1) = k + 1 by omega, show min r.length (k + 1 + 1) = k + 1 + 1 by omega, if_neg fun e => by
        have := (h.back hj (k + 1)).mp e
        rw [Nat.mod_eq_of_lt (by omega)] at this
        omega]
      rfl
theorem IsRing.len_le {ds : List Int} {r : List Nat} (h : IsRing ds r) : r.length ≤ ds.length := nlen_le h.nd h.lt
theorem IsRing.per {ds : List Int} {r : List Nat} (h : IsRing ds r) {j : Nat} (hj : j < r.length) : My.per ds (r.getD j 0) = r.length := by
  unfold My.per
  rw [h.wt hj]
  have := h.len_le
  show min _ _ = _
  omega
def ringL (ds : List Int) (i : Nat) : List Nat := (List.range (per ds i)).map (orb ds i)
def ringsL (ds : List Int) : Nat → List (List Nat)
  | 0 => []
  | i + 1 => if i ∈ (ringsL ds i).flatten then ringsL ds i else ringsL ds i ++ [ringL ds i]
def track (ds : List Int) (i j : Nat) : List Nat := (List.range j).map (orb ds i)
theorem track_length (ds : List Int) (i j : Nat) : (track ds i j).length = j := by simp [track]
theorem track_getD (ds : List Int) (i : Nat) {j k : Nat} (h : k < j) : (track ds i j).getD k 0 = orb ds i k := by
  unfold track
  rw [List.getD_eq_getElem?_getD, List.getElem?_map, List.getElem?_range h]
  rfl
theorem track_succ (ds : List Int) (i j : Nat) : track ds i (j + 1) = track ds i j ++ [orb ds i j] := by
  unfold track
  rw [List.range_succ, List.map_append]
  rfl
/-- a walk that comes to a marked place is a ring -/
theorem ring_close {ds : List Int} (hs : Shf ds) {i j : Nat} (hi : i < ds.length) {F : List Nat} (hF : i ∉ F) (hb : ∀ x, x < ds.length → nx ds x ∈ F → x ∈ F) (nd : (F ++ track ds i j).Nodup) (hm : orb ds i j ∈ F ++ track ds i j) : IsRing ds (track ds i j) := by
  have ndt : (track ds i j).Nodup := (List.nodup_append.mp nd).2.1
  have nf : ∀ k, orb ds i k ∉ F := by
    intro k
    induction k with
    | zero => exact hF
    | succ k ih => exact fun h => ih (hb _ (orb_lt hs hi k) h)
  have m : orb ds i j ∈ track ds i j := by
    rcases List.mem_append.mp hm with h | h
    · exact absurd h (nf j)
    · exact h
  obtain ⟨k, hk, e⟩ := IsRing.mem (ds := ds) m
  rw [track_length] at hk
  rw [track_getD ds i hk] at e
  have back : orb ds i j = i := by
    cases k with
    | zero => exact e.symm
    | succ k =>
      obtain ⟨j', rfl⟩ : ∃ j', j = j' + 1 := ⟨j - 1, by omega⟩
      have e2 := nx_inj hs (orb_lt hs hi k) (orb_lt hs hi j') e
      have g1 : (track ds i (j' + 1))[k]? = some (orb ds i k) := by
        unfold track
        rw [List.getElem?_map, List.getElem?_range (by omega)]
        rfl
      have g2 : (track ds i (j' + 1))[j']? = some (orb ds i j') := by
        unfold track
        rw [List.getElem?_map, List.getElem?_range (by omega)]
        rfl
      have l1 : k < (track ds i (j' + 1)).length := by rw [track_length]; omega
      have : k = j' := (List.getElem?_inj l1 ndt).mp (by rw [g1, g2, e2])
      omega
  refine ⟨by rw [track_length]; omega, ndt, ?_, ?_⟩
  · intro x hx
    obtain ⟨t, _, rfl⟩ := List.mem_map.mp hx
    exact orb_lt hs hi t
  · intro t ht
    rw [track_length] at ht
    rw [track_length, track_getD ds i ht]
    by_cases c : t + 1 < j
    · rw [Nat.mod_eq_of_lt c, track_getD ds i c]
      rfl
    · have : t + 1 = j := by omega
      rw [this, Nat.mod_self, track_getD ds i (by omega)]
      have b2 : orb ds i (t + 1) = i := by rw [this]; exact back
      exact b2
structure Rings (ds : List Int) (R : List (List Nat)) (m : Nat) : Prop where
  ring : ∀ r ∈ R, IsRing ds r
  nd : R.flatten.Nodup
  all : ∀ i, i < m → i ∈ R.flatten
theorem Rings.lt {ds : List Int} {R : List (List Nat)} {m : Nat} (h : Rings ds R m) : ∀ i ∈ R.flatten, i < ds.length := fun i hi => by
  obtain ⟨r, hr, him⟩ := List.mem_flatten.mp hi
  exact (h.ring r hr).lt i him
theorem Rings.fro {ds : List Int} (hs : Shf ds) {R : List (List Nat)} {m : Nat} (h : Rings ds R m) (x : Nat) (hx : x < ds.length) (hm : nx ds x ∈ R.flatten) : x ∈ R.flatten := by
  obtain ⟨r, hr, him⟩ := List.mem_flatten.mp hm
  exact List.mem_flatten.mpr ⟨r, hr, (h.ring r hr).fro hs hx him⟩
theorem Rings.nil (ds : List Int) : Rings ds [] 0 := ⟨(fun _ h => nomatch h), List.nodup_nil, fun _ h => absurd h (Nat.not_lt_zero _)⟩
theorem Rings.skip {ds : List Int} {R : List (List Nat)} {m : Nat} (h : Rings ds R m) (hm : m ∈ R.flatten) : Rings ds R (m + 1) := ⟨h.ring, h.nd, fun i hi => by
  by_cases e : i = m
  · rw [e]
    exact hm
  · exact h.all i (by omega)⟩
theorem Rings.put {ds : List Int} {R : List (List Nat)} {m j : Nat} (h : Rings ds R m) (hr : IsRing ds (track ds m j)) (nd : (R.flatten ++ track ds m j).Nodup) : Rings ds (R ++ [track ds m j]) (m + 1) := by
  have ef : (R ++ [track ds m j]).flatten = R.flatten ++ track ds m j := by
    rw [List.flatten_append, List.flatten_singleton]
  refine ⟨fun r h1 => ?_, by rw [ef]; exact nd, fun i hi => ?_⟩
  · rcases List.mem_append.mp h1 with h1 | h1
    · exact h.ring r h1
    · rw [List.mem_singleton.mp h1]
      exact hr
  · rw [ef]
    by_cases e : i = m
    · refine List.mem_append_right _ (List.mem_map.mpr ⟨0, ?_, e.symm⟩)
      have := hr.pos
      rw [track_length] at this
      exact List.mem_range.mpr this
    · exact List.mem_append_left _ (h.all i (by omega))
theorem track_is {ds : List Int} {m j : Nat} (hr : IsRing ds (track ds m j)) : track ds m j = ringL ds m := by
  have p := hr.pos
  have e := hr.per p
  rw [track_length] at p e
  rw [track_getD ds m p] at e
  unfold ringL
  rw [show My.per ds m = j from e]
  rfl
/-- marked places -/
def marks (n : Nat) (M : List Nat) : List V := (List.range n).map fun i => V.bl (decide (i ∈ M))
theorem marks_nil (n : Nat) : (List.replicate n [V.bl false]).flatten = marks n [] := by
  unfold marks
  induction n with
  | zero => rfl
  | succ n ih =>
    rw [List.replicate_succ', List.flatten_append, ih, List.range_succ, List.map_append]
    rfl
theorem marks_at {n i : Nat} (M : List Nat) (h : i < n) : (marks n M)[i]? = some (.bl (decide (i ∈ M))) := by
  unfold marks
  rw [List.getElem?_map, List.getElem?_range h]
  rfl
theorem marks_set {n p : Nat} (M : List Nat) (h : p < n) : (marks n M).set p (.bl true) = marks n (M ++ [p]) := by
  refine List.ext_getElem? fun i => ?_
  by_cases hi : i < n
  · rw [marks_at _ hi]
    by_cases e : p = i
    · subst e
      rw [List.getElem?_set_self (by unfold marks; simpa using h)]
      simp
    · rw [List.getElem?_set_ne e, marks_at _ hi]
      have : i ∈ M ++ [p] ↔ i ∈ M := by
        rw [List.mem_append, List.mem_singleton]
        exact ⟨fun h => h.elim id fun h => absurd h.symm e, .inl⟩
      simp only [this]
  · rw [List.getElem?_eq_none (by rw [List.length_set]; unfold marks; rw [List.length_map, List.length_range]; omega), List.getElem?_eq_none (by unfold marks; rw [List.length_map, List.length_range]; omega)]
theorem marks_length (n : Nat) (M : List Nat) : (marks n M).length = n := by simp [marks]

/-- the rings of a shuffle, found -/
theorem orb_shift (ds : List Int) (i : Nat) (t : Nat) : orb ds (nx ds i) t = orb ds i (t + 1) := by
  rw [Nat.add_comm, orb_add]
  rfl
theorem rings_step {ds : List Int} (hs : Shf ds) {R : List (List Nat)} {i : Nat} (hi : i < ds.length) (rg : Rings ds R i) (hm : i ∉ R.flatten) : ∃ j, IsRing ds (track ds i j) ∧ (R.flatten ++ track ds i j).Nodup := by
  have M0 : R.flatten.length ≤ ds.length := nlen_le rg.nd rg.lt
  have go : ∀ m j, m + (R.flatten.length + j) = ds.length → (R.flatten ++ track ds i j).Nodup → ∃ j, IsRing ds (track ds i j) ∧ (R.flatten ++ track ds i j).Nodup := by
    intro m
    induction m with
    | zero =>
      intro j hj nd
      by_cases hmm : orb ds i j ∈ R.flatten ++ track ds i j
      · exact ⟨j, ring_close hs hi hm (rg.fro hs) nd hmm, nd⟩
      · have nd2 : (R.flatten ++ track ds i (j + 1)).Nodup := by
          rw [track_succ, ← List.append_assoc]
          refine List.nodup_append.mpr ⟨nd, List.pairwise_singleton _ _, fun x hx y hy e => ?_⟩
          rw [List.mem_singleton.mp hy] at e
          exact hmm (e ▸ hx)
        have lt2 : (R.flatten ++ track ds i (j + 1)).length ≤ ds.length := by
          refine nlen_le nd2 fun x hx => ?_
          rcases List.mem_append.mp hx with h | h
          · exact rg.lt x h
          · obtain ⟨t, _, rfl⟩ := List.mem_map.mp h
            exact orb_lt hs hi t
        rw [List.length_append, track_length] at lt2
        omega
    | succ m ih =>
      intro j hj nd
      by_cases hmm : orb ds i j ∈ R.flatten ++ track ds i j
      · exact ⟨j, ring_close hs hi hm (rg.fro hs) nd hmm, nd⟩
      · refine ih (j + 1) (by omega) ?_
        rw [track_succ, ← List.append_assoc]
        refine List.nodup_append.mpr ⟨nd, List.pairwise_singleton _ _, fun x hx y hy e => ?_⟩
        rw [List.mem_singleton.mp hy] at e
        exact hmm (e ▸ hx)
  refine go (ds.length - R.flatten.length) 0 (by omega) ?_
  show (R.flatten ++ []).Nodup
  rw [List.append_nil]
  exact rg.nd
theorem rings_upto {ds : List Int} (hs : Shf ds) : ∀ i, i ≤ ds.length → Rings ds (ringsL ds i) i
  | 0, _ => Rings.nil ds
  | i + 1, hi => by
    have rg := rings_upto hs i (by omega)
    by_cases hm : i ∈ (ringsL ds i).flatten
    · rw [show ringsL ds (i + 1) = ringsL ds i from if_pos hm]
      exact rg.skip hm
    · rw [show ringsL ds (i + 1) = ringsL ds i ++ [ringL ds i] from if_neg hm]
      obtain ⟨j, hr, nd⟩ := rings_step hs (show i < ds.length by omega) rg hm
      rw [← track_is hr]
      exact rg.put hr nd
theorem rings_of {ds : List Int} (hs : Shf ds) : Rings ds (ringsL ds ds.length) ds.length := rings_upto hs _ (Nat.le_refl _)

/-! ### how many are back -/
theorem Rings.perm {ds : List Int} (hs : Shf ds) (h : Rings ds R ds.length) : R.flatten.Perm (List.range ds.length) :=
  (List.perm_ext_iff_of_nodup h.nd List.nodup_range).mpr fun i => ⟨fun m => List.mem_range.mpr (h.lt i m), fun m => h.all i (List.mem_range.mp m)⟩
def lensL (ds : List Int) : List Int := (up ((ringsL ds ds.length).map List.length)).mergeSort (fun a b => decide (a ≤ b))
theorem lens_perm (ds : List Int) : (up ((ringsL ds ds.length).map List.length)).Perm (lensL ds) := (List.mergeSort_perm _ _).symm
theorem lens_sorted (ds : List Int) : (lensL ds).Pairwise (· ≤ ·) := by
  have h := List.pairwise_mergeSort (le := fun a b : Int => decide (a ≤ b)) (fun a b c x y => decide_eq_true (Int.le_trans (of_decide_eq_true x) (of_decide_eq_true y))) (fun a b => by
    rcases Int.le_total a b with h | h
    · simp [h]
    · simp [h]) (up ((ringsL ds ds.length).map List.length))
  exact h.imp fun h => of_decide_eq_true h
theorem lens_mem {ds : List Int} (h : Rings ds (ringsL ds ds.length) ds.length) {l : Int} (hl : l ∈ lensL ds) : 1 ≤ l ∧ l ≤ ds.length := by
  obtain ⟨k, hk, rfl⟩ := List.mem_map.mp ((lens_perm ds).mem_iff.mpr hl)
  obtain ⟨r, hr, rfl⟩ := List.mem_map.mp hk
  have := (h.ring r hr).pos
  have := (h.ring r hr).len_le
  omega
theorem lens_length (ds : List Int) : (lensL ds).length = (ringsL ds ds.length).length := by
  rw [← (lens_perm ds).length_eq, up_length, List.length_map]
theorem rings_length {ds : List Int} (h : Rings ds (ringsL ds ds.length) ds.length) : (ringsL ds ds.length).length ≤ ds.length :=
  Nat.le_trans (rings_le fun r hr => (h.ring r hr).pos) (nlen_le h.nd h.lt)
def cnt (ds : List Int) (t : Nat) : Nat := ((List.range ds.length).filter fun k => decide (orb ds k t = k)).length
theorem ring_cnt {ds : List Int} {r : List Nat} (h : IsRing ds r) (t : Nat) : (r.filter fun k => decide (orb ds k t = k)).length = if t % r.length = 0 then r.length else 0 := by
  by_cases c : t % r.length = 0
  · rw [if_pos c, List.filter_eq_self.mpr]
    intro k hk
    obtain ⟨j, hj, rfl⟩ := IsRing.mem (ds := ds) hk
    exact decide_eq_true ((h.back hj t).mpr c)
  · rw [if_neg c, List.filter_eq_nil_iff.mpr]
    · rfl
    intro k hk
    obtain ⟨j, hj, rfl⟩ := IsRing.mem (ds := ds) hk
    intro e
    exact c ((h.back hj t).mp (of_decide_eq_true e))
theorem rings_cnt {ds : List Int} (t : Nat) : ∀ {R : List (List Nat)}, (∀ r ∈ R, IsRing ds r) → ((R.flatten.filter fun k => decide (orb ds k t = k)).length : Int) = ((up (R.map List.length)).filter fun l => decide ((t : Int) % l = 0)).sum
  | [], _ => rfl
  | r :: R, h => by
    have ih := rings_cnt t (R := R) fun r hr => h r (List.mem_cons_of_mem _ hr)
    have hr := ring_cnt (h r List.mem_cons_self) t
    have e : ((t : Int) % (r.length : Int) = 0) ↔ t % r.length = 0 := by
      rw [← Int.natCast_emod]
      omega
    rw [List.flatten_cons, List.filter_append, List.length_append, hr, Int.natCast_add, ih]
    show _ = (((r.length : Int) :: up (R.map List.length)).filter fun l => decide ((t : Int) % l = 0)).sum
    rw [List.filter_cons]
    by_cases c : t % r.length = 0
    · rw [if_pos c, if_pos (decide_eq_true (e.mpr c)), List.sum_cons]
    · rw [if_neg c, if_neg (by simpa using fun x => c (e.mp x))]
      omega
theorem back_cnt {ds : List Int} (hs : Shf ds) (h : Rings ds (ringsL ds ds.length) ds.length) (t : Nat) : ((lensL ds).filter fun l => decide ((t : Int) % l = 0)).sum = (cnt ds t : Int) := by
  rw [← perm_sum ((lens_perm ds).filter _), ← rings_cnt t h.ring]
  unfold cnt
  rw [((h.perm hs).filter _).length_eq]
def backL (ds : List Int) (m : Nat) : List Nat := (List.range m).map fun t => cnt ds (t + 1)
theorem cnt_le (ds : List Int) (t : Nat) : cnt ds t ≤ ds.length := by
  have := List.length_filter_le (fun k => decide (orb ds k t = k)) (List.range ds.length)
  rw [List.length_range] at this
  exact this

/-! ### turned -/
theorem per_ring {ds : List Int} (hs : Shf ds) {i : Nat} (hi : i < ds.length) : ∃ r j, IsRing ds r ∧ j < r.length ∧ r.getD j 0 = i ∧ per ds i = r.length := by
  have rg := rings_of hs
  obtain ⟨r, hr, him⟩ := List.mem_flatten.mp (rg.all i hi)
  obtain ⟨j, hj, rfl⟩ := IsRing.mem (ds := ds) him
  exact ⟨r, j, rg.ring r hr, hj, rfl, (rg.ring r hr).per hj⟩
theorem per_pos {ds : List Int} (hs : Shf ds) {i : Nat} (hi : i < ds.length) : 1 ≤ per ds i ∧ per ds i ≤ ds.length := by
  obtain ⟨r, j, hr, hj, _, e⟩ := per_ring hs hi
  have := hr.pos
  have := hr.len_le
  omega
theorem orb_back {ds : List Int} (hs : Shf ds) {i : Nat} (hi : i < ds.length) (t : Nat) : orb ds i t = i ↔ t % per ds i = 0 := by
  obtain ⟨r, j, hr, hj, rfl, e⟩ := per_ring hs hi
  rw [e]
  exact hr.back hj t
theorem orb_mod {ds : List Int} (hs : Shf ds) {i : Nat} (hi : i < ds.length) (t : Nat) : orb ds i (t % per ds i) = orb ds i t := by
  obtain ⟨r, j, hr, hj, rfl, e⟩ := per_ring hs hi
  rw [e, hr.orb hj, hr.orb hj, Nat.add_mod_mod]
def tn (ds : List Int) (t : Int) (i : Nat) : Nat := orb ds i (t % (per ds i : Int)).toNat
theorem tn_lt {ds : List Int} (hs : Shf ds) (t : Int) {i : Nat} (hi : i < ds.length) : tn ds t i < ds.length := orb_lt hs hi _
theorem tn_nat {ds : List Int} (hs : Shf ds) (t : Nat) {i : Nat} (hi : i < ds.length) : tn ds (t : Int) i = orb ds i t := by
  unfold tn
  rw [← Int.natCast_emod, Int.toNat_natCast, orb_mod hs hi]
theorem tn_ring {ds : List Int} {r : List Nat} (h : IsRing ds r) (t : Int) {j : Nat} (hj : j < r.length) : r.getD (((j : Int) + t) % (r.length : Int)).toNat 0 = tn ds t (r.getD j 0) := by
  have p := h.pos
  unfold tn
  rw [h.per hj, h.orb hj]
  congr 1
  have h0 := Int.emod_nonneg t (show (r.length : Int) ≠ 0 by omega)
  have e : (((j + (t % (r.length : Int)).toNat) % r.length : Nat) : Int) = ((j : Int) + t) % (r.length : Int) := by
    rw [Int.natCast_emod, Int.natCast_add, Int.toNat_of_nonneg h0, Int.add_emod_emod]
  omega
theorem tn_step {ds : List Int} (hs : Shf ds) (t : Int) {i : Nat} (hi : i < ds.length) : nx ds (tn ds t i) = tn ds (t + 1) i := by
  obtain ⟨p1, _⟩ := per_pos hs hi
  have h0 := Int.emod_nonneg t (show (per ds i : Int) ≠ 0 by omega)
  unfold tn
  show orb ds i ((t % (per ds i : Int)).toNat + 1) = _
  rw [← orb_mod hs hi]
  congr 1
  have e : ((((t % (per ds i : Int)).toNat + 1) % per ds i : Nat) : Int) = (t + 1) % (per ds i : Int) := by
    rw [Int.natCast_emod, Int.natCast_add, Int.toNat_of_nonneg h0]
    exact Int.emod_add_emod _ _ _
  omega
def turnL (ds : List Int) (t : Int) : List Int := (List.range ds.length).map fun i => (tn ds t i : Int)
theorem turn_length (ds : List Int) (t : Int) : (turnL ds t).length = ds.length := by simp [turnL]
theorem turn_end' {ds F : List Int} {t : Int} (h1 : F.length = ds.length) (h : ∀ i, i < ds.length → F.getD i 0 = (tn ds t i : Int)) : F = turnL ds t := by
  refine List.ext_getElem? fun i => ?_
  unfold turnL
  rw [List.getElem?_map]
  by_cases hi : i < ds.length
  · have := h i hi
    rw [List.getD_eq_getElem?_getD, List.getElem?_eq_getElem (show i < F.length by omega)] at this
    rw [List.getElem?_range hi, List.getElem?_eq_getElem (show i < F.length by omega)]
    exact congrArg some this
  · rw [List.getElem?_eq_none (show F.length ≤ i by omega), List.getElem?_eq_none (by rw [List.length_range]; omega)]
    rfl
theorem turn_wide {ds : List Int} (hs : Shf ds) (t : Int) : wide 1900 (turnL ds t) ∧ (turnL ds t).length ≤ 4000 := by
  have h3 := hs.2.1
  refine ⟨(wide_lt (k := 20) (by decide) fun n hn => ?_).mono (by decide), by rw [turn_length]; omega⟩
  obtain ⟨i, hi, rfl⟩ := List.mem_map.mp hn
  have := tn_lt hs t (List.mem_range.mp hi)
  omega
theorem up_at {r : List Nat} {j : Nat} (h : j < r.length) : (vi (up r))[j]? = some (.int (r.getD j 0 : Int)) := by
  unfold vi up
  rw [List.getElem?_map, List.getElem?_map, List.getElem?_eq_getElem h, getD_of h]
  rfl
theorem set_getD {F : List Int} {k j : Nat} {x : Int} (h : k < F.length) : (F.set k x).getD j 0 = if j = k then x else F.getD j 0 := by
  rw [List.getD_eq_getElem?_getD, List.getD_eq_getElem?_getD]
  by_cases c : j = k
  · rw [if_pos c, c, List.getElem?_set_self h]
    rfl
  · rw [if_neg c, List.getElem?_set_ne (Ne.symm c)]
theorem take_flat {R : List (List Nat)} {i : Nat} {r : List Nat} (h : R[i]? = some r) : (R.take (i + 1)).flatten = (R.take i).flatten ++ r := by
  rw [List.take_add_one, h, List.flatten_append]
  show _ ++ (r ++ []) = _
  rw [List.append_nil]

/-! ### tables of numbers -/
def tabL (m : Nat) (f : Nat → Int) : List Int := (List.range m).map f
theorem tab_length (m : Nat) (f : Nat → Int) : (tabL m f).length = m := by simp [tabL]
theorem tab_get {m : Nat} {f : Nat → Int} {i : Nat} (h : i < m) : (tabL m f)[i]? = some (f i) := by
  unfold tabL
  rw [List.getElem?_map, List.getElem?_range h]
  rfl
theorem tab_at {m : Nat} {f : Nat → Int} {i : Nat} (h : i < m) : (vi (tabL m f))[i]? = some (.int (f i)) := by
  unfold vi
  rw [List.getElem?_map, tab_get h]
  rfl
theorem tab_getD {m : Nat} {f : Nat → Int} {i : Nat} (h : i < m) : (tabL m f).getD i 0 = f i := by
  rw [List.getD_eq_getElem?_getD, tab_get h]
  rfl
theorem tab_congr {m : Nat} {f g : Nat → Int} (h : ∀ i, i < m → f i = g i) : tabL m f = tabL m g := List.map_congr_left fun i hi => h i (List.mem_range.mp hi)
theorem tab_set {m : Nat} {f : Nat → Int} {j : Nat} {v : Int} (h : j < m) : (tabL m f).set j v = tabL m fun i => if i = j then v else f i := by
  refine List.ext_getElem? fun i => ?_
  by_cases hi : i < m
  · rw [tab_get hi]
    by_cases c : i = j
    · rw [c, List.getElem?_set_self (by rw [tab_length]; exact h), if_pos rfl]
    · rw [List.getElem?_set_ne (Ne.symm c), tab_get hi, if_neg c]
  · rw [List.getElem?_eq_none (by rw [List.length_set, tab_length]; omega), List.getElem?_eq_none (by rw [tab_length]; omega)]
theorem tab_self (r : List Int) : tabL r.length (fun i => r.getD i 0) = r := by
  refine List.ext_getElem? fun i => ?_
  by_cases hi : i < r.length
  · rw [tab_get hi, List.getElem?_eq_getElem hi, List.getD_eq_getElem?_getD, List.getElem?_eq_getElem hi]
    rfl
  · rw [List.getElem?_eq_none (by rw [tab_length]; omega), List.getElem?_eq_none (by omega)]
theorem tab_zero (m : Nat) : List.replicate m (0 : Int) = tabL m fun _ => 0 := by
  refine List.ext_getElem? fun i => ?_
  rw [List.getElem?_replicate]
  by_cases hi : i < m
  · rw [tab_get hi, if_pos hi]
  · rw [if_neg hi, List.getElem?_eq_none (by rw [tab_length]; omega)]
theorem given_tab (m : Nat) (f : Nat → Int) : given m (fun _ => true) (fun i => V.int (f i)) = vi (tabL m f) := given_ints _ _
/-! ### the row of counts -/
def part (c : List Int) (i : Nat) : Nat → Int
  | 0 => 0
  | k + 1 => part c i k + (if (i + 1) % (k + 1) = 0 then ((k + 1 : Nat) : Int) * c.getD k 0 else 0)
def rowL (c : List Int) : List Int := tabL c.length fun i => part c i (i + 1)
theorem rowL_length (c : List Int) : (rowL c).length = c.length := tab_length _ _
theorem part_stay (c : List Int) (i : Nat) {k : Nat} (h : i + 1 ≤ k) : part c i k = part c i (i + 1) := by
  induction k with
  | zero => omega
  | succ k ih =>
    by_cases e : i = k
    · rw [e]
    · show part c i k + (if (i + 1) % (k + 1) = 0 then _ else 0) = _
      rw [if_neg (by rw [Nat.mod_eq_of_lt (by omega)]; omega), ih (by omega), Int.add_zero]
/-- j is the t-th multiple of n -/
theorem mul_ix {n t i : Nat} (hn : 0 < n) (h : (i + 1) % n = 0) : (i + 1) / n ≤ t + 1 ↔ (i + 1) / n ≤ t ∨ i + 1 = n * (t + 1) := by
  have e := Nat.div_add_mod (i + 1) n
  rw [h, Nat.add_zero] at e
  constructor
  · intro k
    by_cases c : (i + 1) / n ≤ t
    · exact .inl c
    · right
      rw [← e, show (i + 1) / n = t + 1 by omega]
  · rintro (k | k)
    · omega
    · rw [k, Nat.mul_div_cancel_left _ hn]
      exact Nat.le_refl _
theorem mul_mod {n t : Nat} (hn : 0 < n) : (n * (t + 1) - 1 + 1) % n = 0 ∧ (n * (t + 1) - 1 + 1) / n = t + 1 := by
  have : 0 < n * (t + 1) := Nat.mul_pos hn (Nat.succ_pos t)
  rw [show n * (t + 1) - 1 + 1 = n * (t + 1) by omega]
  exact ⟨Nat.mul_mod_right _ _, Nat.mul_div_cancel_left _ hn⟩
/-! ### new numbers -/
def sub (r : List Int) : Nat → Nat → Int
  | 0, i => r.getD i 0
  | k + 1, i => sub r k i - (if k < i ∧ (i + 1) % (k + 1) = 0 then sub r k k else 0)
def newL (r : List Int) : List Int := tabL r.length (sub r r.length)
theorem newL_length (r : List Int) : (newL r).length = r.length := tab_length _ _
theorem sub_row (c : List Int) (k : Nat) : ∀ i, i < c.length → sub (rowL c) k i = part c i (i + 1) - part c i (min k i) := by
  induction k with
  | zero =>
    intro i hi
    show (rowL c).getD i 0 = _
    rw [Nat.zero_min]
    unfold rowL
    rw [tab_getD hi]
    show _ = _ - (0 : Int)
    omega
  | succ k ih =>
    intro i hi
    show sub (rowL c) k i - (if k < i ∧ (i + 1) % (k + 1) = 0 then sub (rowL c) k k else 0) = _
    rw [ih i hi]
    by_cases h : k < i
    · rw [show min (k + 1) i = k + 1 by omega, show min k i = k by omega]
      have ek : part c i (k + 1) = part c i k + (if (i + 1) % (k + 1) = 0 then ((k + 1 : Nat) : Int) * c.getD k 0 else 0) := rfl
      by_cases h2 : (i + 1) % (k + 1) = 0
      · have e3 : part c k (k + 1) = part c k k + (if (k + 1) % (k + 1) = 0 then ((k + 1 : Nat) : Int) * c.getD k 0 else 0) := rfl
        rw [if_pos (Nat.mod_self _)] at e3
        rw [if_pos h2] at ek
        rw [if_pos ⟨h, h2⟩, ih k (by omega), Nat.min_self, ek, e3]
        omega
      · rw [if_neg h2] at ek
        rw [if_neg fun z => h2 z.2, ek]
        omega
    · rw [if_neg fun z => h z.1, show min (k + 1) i = i by omega, show min k i = i by omega]
      omega
theorem new_row (c : List Int) : newL (rowL c) = tabL c.length fun i => ((i + 1 : Nat) : Int) * c.getD i 0 := by
  unfold newL
  rw [rowL_length]
  refine tab_congr fun i hi => ?_
  rw [sub_row c _ i hi, show min c.length i = i by omega]
  have e3 : part c i (i + 1) = part c i i + (if (i + 1) % (i + 1) = 0 then ((i + 1 : Nat) : Int) * c.getD i 0 else 0) := rfl
  rw [if_pos (Nat.mod_self _)] at e3
  rw [e3]
  omega
/-- no bar -/
def Free (r : List Int) : Prop := ∀ i, i < r.length → ∃ q : Int, 0 ≤ q ∧ (newL r).getD i 0 = ((i + 1 : Nat) : Int) * q
theorem free_row {c : List Int} (h : ∀ n ∈ c, 0 ≤ n) : Free (rowL c) := fun i hi => by
  rw [rowL_length] at hi
  refine ⟨c.getD i 0, ?_, by rw [new_row, tab_getD hi]⟩
  rw [List.getD_eq_getElem?_getD, List.getElem?_eq_getElem hi]
  exact h _ (List.getElem_mem hi)
def ringsR (r : List Int) : List Int := tabL r.length fun i => (newL r).getD i 0 / ((i + 1 : Nat) : Int)
theorem rings_row (c : List Int) : ringsR (rowL c) = c := by
  unfold ringsR
  rw [rowL_length]
  refine (tab_congr fun i hi => ?_).trans (tab_self c)
  rw [new_row, tab_getD hi, Int.mul_ediv_cancel_left _ (by omega)]
def addL (xs ys : List Int) : List Int := tabL (min xs.length ys.length) fun i => xs.getD i 0 + ys.getD i 0
theorem getD_at {xs : List Int} {i : Nat} (h : i < xs.length) : (vi xs)[i]? = some (.int (xs.getD i 0)) := by
  rw [vi_at h, List.getD_eq_getElem?_getD, List.getElem?_eq_getElem h]
  rfl

/-! ### rows of shuffles -/
def cntL (L : List Int) (m : Nat) : List Int := tabL m fun k => (L.count ((k + 1 : Nat) : Int) : Int)
theorem part_cons (l : Int) (L : List Int) (m i : Nat) (hl : 1 ≤ l) : ∀ k, k ≤ m → part (cntL (l :: L) m) i k = part (cntL L m) i k + (if l ≤ k ∧ ((i + 1 : Nat) : Int) % l = 0 then l else 0)
  | 0, _ => by
    rw [if_neg (by omega)]
    rfl
  | k + 1, h => by
    show part (cntL (l :: L) m) i k + (if (i + 1) % (k + 1) = 0 then ((k + 1 : Nat) : Int) * (cntL (l :: L) m).getD k 0 else 0) = part (cntL L m) i k + (if (i + 1) % (k + 1) = 0 then ((k + 1 : Nat) : Int) * (cntL L m).getD k 0 else 0) + _
    have e1 : (cntL (l :: L) m).getD k 0 = ((l :: L).count ((k + 1 : Nat) : Int) : Int) := tab_getD (by omega)
    have e2 : (cntL L m).getD k 0 = (L.count ((k + 1 : Nat) : Int) : Int) := tab_getD (by omega)
    rw [part_cons l L m i hl k (by omega), e1, e2, List.count_cons]
    by_cases c : l = ((k + 1 : Nat) : Int)
    · rw [if_neg (by omega)]
      have e3 : ((i + 1 : Nat) : Int) % l = 0 ↔ (i + 1) % (k + 1) = 0 := by
        rw [c, ← Int.natCast_emod]
        omega
      rw [show (if (l == ((k + 1 : Nat) : Int)) = true then 1 else 0) = 1 from if_pos (by rw [c]; exact beq_self_eq_true _)]
      by_cases d : (i + 1) % (k + 1) = 0
      · rw [if_pos d, if_pos d, if_pos ⟨by omega, e3.mpr d⟩, show ((L.count ((k + 1 : Nat) : Int) + 1 : Nat) : Int) = (L.count ((k + 1 : Nat) : Int) : Int) + 1 from rfl, Int.mul_add, Int.mul_one, ← c]
        omega
      · rw [if_neg d, if_neg d, if_neg fun z => d (e3.mp z.2)]
    · rw [if_neg (show ¬ ((l == ((k + 1 : Nat) : Int)) = true) by simpa using c)]
      have e4 : (l ≤ (k : Int) ∧ ((i + 1 : Nat) : Int) % l = 0) ↔ (l ≤ ((k + 1 : Nat) : Int) ∧ ((i + 1 : Nat) : Int) % l = 0) := ⟨fun z => ⟨by omega, z.2⟩, fun z => ⟨by omega, z.2⟩⟩
      simp only [e4, Nat.add_zero]
      omega
theorem part_filter (m i : Nat) (hi : i < m) : ∀ {L : List Int}, (∀ l ∈ L, 1 ≤ l) → (L.filter fun l => decide (((i + 1 : Nat) : Int) % l = 0)).sum = part (cntL L m) i (i + 1)
  | [], _ => by
    have : ∀ k, k ≤ m → part (cntL [] m) i k = 0 := by
      intro k
      induction k with
      | zero => intro _; rfl
      | succ k ih =>
        intro h
        have e : (cntL [] m).getD k 0 = 0 := tab_getD (by omega)
        show part (cntL [] m) i k + (if (i + 1) % (k + 1) = 0 then ((k + 1 : Nat) : Int) * (cntL [] m).getD k 0 else 0) = 0
        rw [ih (by omega), e, Int.mul_zero]
        split <;> rfl
    rw [this _ (by omega)]
    rfl
  | l :: L, h => by
    have hl := h l List.mem_cons_self
    rw [part_cons l L m i hl (i + 1) (by omega), ← part_filter m i hi fun x hx => h x (List.mem_cons_of_mem _ hx), List.filter_cons]
    by_cases d : ((i + 1 : Nat) : Int) % l = 0
    · have hle : l ≤ ((i + 1 : Nat) : Int) := Int.le_of_dvd (by omega) (Int.dvd_of_emod_eq_zero d)
      rw [if_pos (decide_eq_true d), if_pos ⟨hle, d⟩, List.sum_cons]
      omega
    · rw [if_neg (by simpa using d), if_neg fun z => d z.2, Int.add_zero]
theorem back_rowL {ds : List Int} (hs : Shf ds) (m : Nat) : up (backL ds m) = rowL (cntL (lensL ds) m) := by
  have rg := rings_of hs
  unfold rowL cntL
  rw [tab_length]
  unfold up backL
  rw [List.map_map]
  refine List.map_congr_left fun i hi => ?_
  have hi := List.mem_range.mp hi
  show (cnt ds (i + 1) : Int) = _
  rw [← back_cnt hs rg (i + 1)]
  exact part_filter m i hi fun l hl => (lens_mem rg hl).1
theorem back_at {ds : List Int} {m i : Nat} (h : i < m) : (up (backL ds m)).getD i 0 = (cnt ds (i + 1) : Int) := by
  unfold up backL
  rw [List.map_map, List.getD_eq_getElem?_getD, List.getElem?_map, List.getElem?_range h]
  rfl
theorem back_length (ds : List Int) (m : Nat) : (up (backL ds m)).length = m := by simp [up, backL]
theorem back_tab (ds : List Int) (m : Nat) : up (backL ds m) = tabL m fun i => (cnt ds (i + 1) : Int) := by
  unfold up backL tabL
  rw [List.map_map]
  rfl
/-! beside -/
theorem orb_bes1 {xs : List Int} (ys : List Int) (hx : Shf xs) {k : Nat} (hk : k < xs.length) : ∀ t, orb (besL xs ys) k t = orb xs k t
  | 0 => rfl
  | t + 1 => by
    show nx (besL xs ys) (orb (besL xs ys) k t) = nx xs (orb xs k t)
    have ho := orb_lt hx hk t
    rw [orb_bes1 ys hx hk t]
    unfold nx
    rw [List.getD_eq_getElem?_getD, bes_at xs ys ho]
    rfl
theorem orb_bes2 (xs : List Int) {ys : List Int} (hy : Shf ys) {k : Nat} (hk : k < ys.length) : ∀ t, orb (besL xs ys) (xs.length + k) t = xs.length + orb ys k t
  | 0 => rfl
  | t + 1 => by
    show nx (besL xs ys) (orb (besL xs ys) (xs.length + k) t) = xs.length + nx ys (orb ys k t)
    have ho := orb_lt hy hk t
    rw [orb_bes2 xs hy hk t]
    have e := nx_get hy ho
    unfold nx at *
    rw [List.getD_eq_getElem?_getD, bes_at' xs ys ho]
    show ((xs.length : Int) + ys.getD (orb ys k t) 0).toNat = _
    rw [e]
    omega
theorem cnt_bes {xs ys : List Int} (hx : Shf xs) (hy : Shf ys) (t : Nat) : cnt (besL xs ys) t = cnt xs t + cnt ys t := by
  unfold cnt
  rw [besL_length, List.range_add, List.filter_append, List.length_append, List.filter_map, List.length_map]
  congr 2
  · refine List.filter_congr fun k hk => ?_
    rw [orb_bes1 ys hx (List.mem_range.mp hk)]
  · refine List.filter_congr fun k hk => ?_
    show decide (orb (besL xs ys) (xs.length + k) t = xs.length + k) = _
    rw [orb_bes2 xs hy (List.mem_range.mp hk)]
    refine decide_eq_decide.mpr ⟨fun h => by omega, fun h => by omega⟩
/-! paired -/
theorem pair_count (m : Nat) (hm : 0 < m) (p q : Nat → Bool) : ∀ n, ((List.range (n * m)).filter fun k => p (k / m) && q (k % m)).length = ((List.range n).filter p).length * ((List.range m).filter q).length
  | 0 => by simp
  | n + 1 => by
    rw [Nat.succ_mul, List.range_add, List.filter_append, List.length_append, pair_count m hm p q n, List.filter_map, List.length_map, List.range_succ, List.filter_append, List.length_append, Nat.add_mul]
    congr 1
    have e : ((List.range m).filter ((fun k => p (k / m) && q (k % m)) ∘ fun x => n * m + x)) = (List.range m).filter fun x => p n && q x := by
      refine List.filter_congr fun x hx => ?_
      have hx := List.mem_range.mp hx
      show (p ((n * m + x) / m) && q ((n * m + x) % m)) = _
      rw [Nat.mul_comm n m, Nat.mul_add_div hm, Nat.div_eq_of_lt hx, Nat.add_zero, Nat.mul_add_mod, Nat.mod_eq_of_lt hx]
    rw [e, List.filter_cons]
    cases hp : p n with
    | true => simp
    | false => simp
theorem pairL_nx {xs ys : List Int} (hx : Shf xs) (hy : Shf ys) {i j : Nat} (hi : i < xs.length) (hj : j < ys.length) : nx (pairL xs ys) (i * ys.length + j) = nx xs i * ys.length + nx ys j := by
  have hy0 := hy.1
  have hlt : i * ys.length + j < xs.length * ys.length := by
    have : (i + 1) * ys.length ≤ xs.length * ys.length := Nat.mul_le_mul_right _ hi
    rw [Nat.succ_mul] at this
    omega
  unfold nx
  rw [pairL_getD hlt, Nat.mul_comm i, Nat.mul_add_div hy0, Nat.div_eq_of_lt hj, Nat.add_zero, Nat.mul_add_mod, Nat.mod_eq_of_lt hj, nx_get hx hi, nx_get hy hj, ← Int.natCast_mul, ← Int.natCast_add, Int.toNat_natCast, Int.toNat_natCast, Int.toNat_natCast]
theorem orb_pair {xs ys : List Int} (hx : Shf xs) (hy : Shf ys) {i j : Nat} (hi : i < xs.length) (hj : j < ys.length) : ∀ t, orb (pairL xs ys) (i * ys.length + j) t = orb xs i t * ys.length + orb ys j t
  | 0 => rfl
  | t + 1 => by
    show nx (pairL xs ys) (orb (pairL xs ys) (i * ys.length + j) t) = nx xs (orb xs i t) * ys.length + nx ys (orb ys j t)
    rw [orb_pair hx hy hi hj t, pairL_nx hx hy (orb_lt hx hi t) (orb_lt hy hj t)]
theorem cnt_pair {xs ys : List Int} (hx : Shf xs) (hy : Shf ys) (t : Nat) : cnt (pairL xs ys) t = cnt xs t * cnt ys t := by
  have hy0 := hy.1
  unfold cnt
  rw [pairL_length, ← pair_count ys.length hy0 (fun k => decide (orb xs k t = k)) (fun k => decide (orb ys k t = k))]
  congr 1
  refine List.filter_congr fun k hk => ?_
  have hk := List.mem_range.mp hk
  have hd : k / ys.length < xs.length := Nat.div_lt_of_lt_mul (by rw [Nat.mul_comm]; exact hk)
  have hm : k % ys.length < ys.length := Nat.mod_lt _ hy0
  have e : k = k / ys.length * ys.length + k % ys.length := by
    rw [Nat.mul_comm]
    exact (Nat.div_add_mod k ys.length).symm
  have h1 := orb_pair hx hy hd hm t
  have o1 := orb_lt hy hm t
  rw [← e] at h1
  rw [h1, ← Bool.decide_and]
  refine decide_eq_decide.mpr ⟨fun h => ?_, fun h => ?_⟩
  · have a1 : (orb xs (k / ys.length) t * ys.length + orb ys (k % ys.length) t) / ys.length = k / ys.length := by rw [h]
    have a2 : (orb xs (k / ys.length) t * ys.length + orb ys (k % ys.length) t) % ys.length = k % ys.length := by rw [h]
    rw [Nat.mul_comm, Nat.mul_add_div hy0, Nat.div_eq_of_lt o1, Nat.add_zero] at a1
    rw [Nat.mul_comm, Nat.mul_add_mod, Nat.mod_eq_of_lt o1] at a2
    exact ⟨a1, a2⟩
  · rw [h.1, h.2]
    exact e.symm
/-! turned -/
theorem turn_shf {ds : List Int} (hs : Shf ds) (s : Int) : Shf (turnL ds s) := by
  refine ⟨by rw [turn_length]; exact hs.1, by rw [turn_length]; exact hs.2.1, ?_⟩
  rw [turn_length]
  refine perm_iota ?_ ?_ (turn_length ds s)
  · show List.Pairwise _ _
    unfold turnL
    refine List.pairwise_map.mpr (List.Pairwise.imp_of_mem ?_ List.nodup_range)
    intro i j hi hj hne e
    have hi := List.mem_range.mp hi
    have hj := List.mem_range.mp hj
    have e2 : tn ds s i = tn ds s j := by omega
    -- both lie on one ring
    have back : ∀ k, k < ds.length → tn ds (-s) (tn ds s k) = k := by
      intro k hk
      obtain ⟨r, j0, ir, hj0, rfl, hp⟩ := per_ring hs hk
      have p := ir.pos
      have m0 := Int.emod_nonneg ((j0 : Int) + s) (show (r.length : Int) ≠ 0 by omega)
      have m1 : ((j0 : Int) + s) % (r.length : Int) < r.length := Int.emod_lt_of_pos _ (by omega)
      rw [← tn_ring ir s hj0, ← tn_ring ir (-s) (show (((j0 : Int) + s) % (r.length : Int)).toNat < r.length by omega), Int.toNat_of_nonneg m0, Int.emod_add_emod, show (j0 : Int) + s + -s = j0 by omega, Int.emod_eq_of_lt (by omega) (by omega), Int.toNat_natCast]
    exact hne (by rw [← back i hi, e2, back j hj])
  · intro x hx
    obtain ⟨i, hi, rfl⟩ := List.mem_map.mp hx
    have := tn_lt hs s (List.mem_range.mp hi)
    omega
theorem orb_turn {ds : List Int} (hs : Shf ds) (s : Nat) {k : Nat} (hk : k < ds.length) : ∀ t, orb (turnL ds (s : Int)) k t = orb ds k (s * t)
  | 0 => rfl
  | t + 1 => by
    show nx (turnL ds (s : Int)) (orb (turnL ds (s : Int)) k t) = _
    have ho := orb_lt hs hk (s * t)
    rw [orb_turn hs s hk t, Nat.mul_succ, orb_add]
    unfold nx turnL
    rw [List.getD_eq_getElem?_getD, List.getElem?_map, List.getElem?_range ho]
    show ((tn ds (s : Int) (orb ds k (s * t)) : Nat) : Int).toNat = _
    rw [Int.toNat_natCast, tn_nat hs s ho]
theorem cnt_turn {ds : List Int} (hs : Shf ds) (s t : Nat) : cnt (turnL ds (s : Int)) t = cnt ds (s * t) := by
  unfold cnt
  rw [turn_length]
  congr 1
  refine List.filter_congr fun k hk => ?_
  rw [orb_turn hs s (List.mem_range.mp hk)]
/-! all back -/
theorem per_mem {ds : List Int} (hs : Shf ds) {i : Nat} (hi : i < ds.length) : (per ds i : Int) ∈ lensL ds := by
  have rg := rings_of hs
  obtain ⟨r, hr, him⟩ := List.mem_flatten.mp (rg.all i hi)
  obtain ⟨j, hj, rfl⟩ := IsRing.mem (ds := ds) him
  rw [(rg.ring r hr).per hj]
  exact (lens_perm ds).mem_iff.mp (List.mem_map.mpr ⟨r.length, List.mem_map.mpr ⟨r, hr, rfl⟩, rfl⟩)
theorem cnt_all {ds : List Int} (hs : Shf ds) (t : Nat) : cnt ds t = ds.length ↔ ∀ l ∈ lensL ds, (t : Int) % l = 0 := by
  have rg := rings_of hs
  constructor
  · intro h l hl
    obtain ⟨k, hk, rfl⟩ := List.mem_map.mp ((lens_perm ds).mem_iff.mpr hl)
    obtain ⟨r, hr, rfl⟩ := List.mem_map.mp hk
    have ir := rg.ring r hr
    have hall : ((List.range ds.length).filter fun k => decide (orb ds k t = k)) = List.range ds.length := by
      refine (List.filter_sublist).eq_of_length ?_
      rw [List.length_range]
      exact h
    have h0 : 0 < r.length := ir.pos
    have hx : r.getD 0 0 < ds.length := ir.lt _ (by rw [getD_of h0]; exact List.getElem_mem h0)
    have hm : r.getD 0 0 ∈ (List.range ds.length).filter fun k => decide (orb ds k t = k) := by
      rw [hall]
      exact List.mem_range.mpr hx
    have := (ir.back h0 t).mp (of_decide_eq_true (List.mem_filter.mp hm).2)
    rw [← Int.natCast_emod]
    omega
  · intro h
    unfold cnt
    rw [List.filter_eq_self.mpr, List.length_range]
    intro k hk
    have hk := List.mem_range.mp hk
    refine decide_eq_true ((orb_back hs hk t).mpr ?_)
    have := h _ (per_mem hs hk)
    rw [← Int.natCast_emod] at this
    omega
def Whole (ds : List Int) (w : Nat) : Prop := 0 < w ∧ ∀ t : Nat, t % w = 0 ↔ ∀ l ∈ lensL ds, (t : Int) % l = 0
theorem whole_per {ds : List Int} (hs : Shf ds) {w : Nat} (h : Whole ds w) {i : Nat} (hi : i < ds.length) : (w : Int) % (per ds i : Int) = 0 := (h.2 w).mp (Nat.mod_self w) _ (per_mem hs hi)
theorem turn_whole {ds : List Int} (hs : Shf ds) {w : Nat} (h : Whole ds w) : turnL ds (w : Int) = iota ds.length := by
  unfold turnL iota
  refine List.map_congr_left fun i hi => ?_
  have := whole_per hs h (List.mem_range.mp hi)
  unfold tn
  rw [this]
  rfl
theorem turn_less {ds : List Int} (hs : Shf ds) {w : Nat} (h : Whole ds w) : turnL ds (1 - (w : Int)) = ds := by
  refine (turn_end' rfl fun i hi => ?_).symm
  have h1 := whole_per hs h hi
  have h2 : (1 - (w : Int)) % (per ds i : Int) = 1 % (per ds i : Int) := by
    rw [Int.sub_emod, h1, Int.sub_zero, Int.emod_emod]
  unfold tn
  rw [h2, ← show (((1 % per ds i : Nat)) : Int) = (1 : Int) % (per ds i : Int) from Int.natCast_emod 1 _, Int.toNat_natCast, orb_mod hs hi, nx_get hs hi]
  rfl

def topS (i : Nat) : Stmt := PySem.Challenge.pw_backafter_k18_whole_rows_of_shuffles.main.body.getD i (.Pass ⟨0, 0, 0, 0⟩)
abbrev s_is_whole : Stmt := topS 12
theorem sc_is_whole : FnScope ["value"] ["value"] (defScope s_is_whole) := ⟨rfl, rfl, rfl, by decide +kernel, rfl, by decide +kernel, by decide +kernel⟩
abbrev s_rings_in : Stmt := topS 23
theorem sc_rings_in : FnScope ["shuffle", "found", "seen", "first", "ring", "place"] ["shuffle"] (defScope s_rings_in) := ⟨rfl, rfl, rfl, by decide +kernel, rfl, by decide +kernel, by decide +kernel⟩
abbrev s_check_things : Stmt := topS 24
theorem sc_check_things : FnScope ["many"] ["many"] (defScope s_check_things) := ⟨rfl, rfl, rfl, by decide +kernel, rfl, by decide +kernel, by decide +kernel⟩
abbrev s_law_well : Stmt := topS 33
theorem sc_law_well : FnScope ["script", "k", "cell"] ["script", "k"] (defScope s_law_well) := ⟨rfl, rfl, rfl, by decide +kernel, rfl, by decide +kernel, by decide +kernel⟩
abbrev s_law_draw : Stmt := topS 34
theorem sc_law_draw : FnScope ["well", "many", "found", "stirred"] ["well", "many"] (defScope s_law_draw) := ⟨rfl, rfl, rfl, by decide +kernel, rfl, by decide +kernel, by decide +kernel⟩
abbrev s_law_common : Stmt := topS 38
theorem sc_law_common : FnScope ["first", "second", "found", "k"] ["first", "second"] (defScope s_law_common) := ⟨rfl, rfl, rfl, by decide +kernel, rfl, by decide +kernel, by decide +kernel⟩
abbrev s_is_from_to : Stmt := topS 13
theorem sc_is_from_to : FnScope ["value", "least", "most"] ["value", "least", "most"] (defScope s_is_from_to) := ⟨rfl, rfl, rfl, by decide +kernel, rfl, by decide +kernel, by decide +kernel⟩
abbrev s_check_row : Stmt := topS 14
theorem sc_check_row : FnScope ["row", "number"] ["row"] (defScope s_check_row) := ⟨rfl, rfl, rfl, by decide +kernel, rfl, by decide +kernel, by decide +kernel⟩
abbrev s_check_shuffle : Stmt := topS 15
theorem sc_check_shuffle : FnScope ["shuffle", "place"] ["shuffle"] (defScope s_check_shuffle) := ⟨rfl, rfl, rfl, by decide +kernel, rfl, by decide +kernel, by decide +kernel⟩
abbrev s_law_mixed : Stmt := topS 35
theorem sc_law_mixed : FnScope ["well", "size", "places", "found", "k"] ["well", "size"] (defScope s_law_mixed) := ⟨rfl, rfl, rfl, by decide +kernel, rfl, by decide +kernel, by decide +kernel⟩
abbrev s_law_ringed : Stmt := topS 36
theorem sc_law_ringed : FnScope ["well", "places", "longest", "found", "at", "k", "length", "ring", "j"] ["well", "places", "longest"] (defScope s_law_ringed) := ⟨rfl, rfl, rfl, by decide +kernel, rfl, by decide +kernel, by decide +kernel⟩
abbrev s_check_many : Stmt := topS 16
theorem sc_check_many : FnScope ["many"] ["many"] (defScope s_check_many) := ⟨rfl, rfl, rfl, by decide +kernel, rfl, by decide +kernel, by decide +kernel⟩
abbrev s_lengths : Stmt := topS 19
theorem sc_lengths : FnScope ["shuffle", "ring"] ["shuffle"] (defScope s_lengths) := ⟨rfl, rfl, rfl, by decide +kernel, rfl, by decide +kernel, by decide +kernel⟩
abbrev s_turned : Stmt := topS 20
theorem sc_turned : FnScope ["shuffle", "times", "found", "ring", "at", "place"] ["shuffle", "times"] (defScope s_turned) := ⟨rfl, rfl, rfl, by decide +kernel, rfl, by decide +kernel, by decide +kernel⟩
abbrev s_beside : Stmt := topS 21
theorem sc_beside : FnScope ["one", "two", "place"] ["one", "two"] (defScope s_beside) := ⟨rfl, rfl, rfl, by decide +kernel, rfl, by decide +kernel, by decide +kernel⟩
abbrev s_paired : Stmt := topS 22
theorem sc_paired : FnScope ["one", "two", "left", "right"] ["one", "two"] (defScope s_paired) := ⟨rfl, rfl, rfl, by decide +kernel, rfl, by decide +kernel, by decide +kernel⟩
abbrev s_new_numbers : Stmt := topS 26
theorem sc_new_numbers : FnScope ["row", "many", "new", "n", "multiple"] ["row"] (defScope s_new_numbers) := ⟨rfl, rfl, rfl, by decide +kernel, rfl, by decide +kernel, by decide +kernel⟩
abbrev s_added : Stmt := topS 29
theorem sc_added : FnScope ["one", "two", "left", "right"] ["one", "two"] (defScope s_added) := ⟨rfl, rfl, rfl, by decide +kernel, rfl, by decide +kernel, by decide +kernel⟩
abbrev s_multiplied : Stmt := topS 30
theorem sc_multiplied : FnScope ["one", "two", "left", "right"] ["one", "two"] (defScope s_multiplied) := ⟨rfl, rfl, rfl, by decide +kernel, rfl, by decide +kernel, by decide +kernel⟩
abbrev s_each : Stmt := topS 31
theorem sc_each : FnScope ["row", "step"] ["row", "step"] (defScope s_each) := ⟨rfl, rfl, rfl, by decide +kernel, rfl, by decide +kernel, by decide +kernel⟩
abbrev s_law_deck : Stmt := topS 37
theorem sc_law_deck : FnScope ["well", "most", "size", "places"] ["well", "most"] (defScope s_law_deck) := ⟨rfl, rfl, rfl, by decide +kernel, rfl, by decide +kernel, by decide +kernel⟩
abbrev s_back_row : Stmt := topS 18
theorem sc_back_row : FnScope ["shuffle", "many", "found", "n", "length"] ["shuffle", "many"] (defScope s_back_row) := ⟨rfl, rfl, rfl, by decide +kernel, rfl, by decide +kernel, by decide +kernel⟩
abbrev s_first_bar : Stmt := topS 27
theorem sc_first_bar : FnScope ["row", "n", "new"] ["row"] (defScope s_first_bar) := ⟨rfl, rfl, rfl, by decide +kernel, rfl, by decide +kernel, by decide +kernel⟩
abbrev s_rings : Stmt := topS 28
theorem sc_rings : FnScope ["row", "bar", "n", "new"] ["row"] (defScope s_rings) := ⟨rfl, rfl, rfl, by decide +kernel, rfl, by decide +kernel, by decide +kernel⟩
abbrev s_law_right : Stmt := topS 39
theorem sc_law_right : FnScope ["well", "first", "second", "size", "step", "one_row", "other_row", "told", "whole", "length", "k", "n"] ["well"] (defScope s_law_right) := ⟨rfl, rfl, rfl, by decide +kernel, rfl, by decide +kernel, by decide +kernel⟩
abbrev s_law : Stmt := topS 40
theorem sc_law : FnScope ["script", "k"] ["script"] (defScope s_law) := ⟨rfl, rfl, rfl, by decide +kernel, rfl, by decide +kernel, by decide +kernel⟩
/-- where the defs of the text stand behind the top -/
structure Txt (K : PySem.W.Frag) (mg : Str → Option Value) where
  a_is_whole : Addr
  d_is_whole : FuncData
  F_is_whole : Fun K "is_whole" "is_whole" s_is_whole a_is_whole d_is_whole
  g_is_whole : mg "is_whole" = some (.ref a_is_whole)
  a_rings_in : Addr
  d_rings_in : FuncData
  F_rings_in : Fun K "_rings_in" "_rings_in" s_rings_in a_rings_in d_rings_in
  g_rings_in : mg "_rings_in" = some (.ref a_rings_in)
  a_check_things : Addr
  d_check_things : FuncData
  F_check_things : Fun K "_check_things" "_check_things" s_check_things a_check_things d_check_things
  g_check_things : mg "_check_things" = some (.ref a_check_things)
  a_law_well : Addr
  d_law_well : FuncData
  F_law_well : Fun K "_law_well" "_law_well" s_law_well a_law_well d_law_well
  g_law_well : mg "_law_well" = some (.ref a_law_well)
  a_law_draw : Addr
  d_law_draw : FuncData
  F_law_draw : Fun K "_law_draw" "_law_draw" s_law_draw a_law_draw d_law_draw
  g_law_draw : mg "_law_draw" = some (.ref a_law_draw)
  a_law_common : Addr
  d_law_common : FuncData
  F_law_common : Fun K "_law_common" "_law_common" s_law_common a_law_common d_law_common
  g_law_common : mg "_law_common" = some (.ref a_law_common)
  a_is_from_to : Addr
  d_is_from_to : FuncData
  F_is_from_to : Fun K "is_from_to" "is_from_to" s_is_from_to a_is_from_to d_is_from_to
  g_is_from_to : mg "is_from_to" = some (.ref a_is_from_to)
  a_check_row : Addr
  d_check_row : FuncData
  F_check_row : Fun K "check_row" "check_row" s_check_row a_check_row d_check_row
  g_check_row : mg "check_row" = some (.ref a_check_row)
  a_check_shuffle : Addr
  d_check_shuffle : FuncData
  F_check_shuffle : Fun K "check_shuffle" "check_shuffle" s_check_shuffle a_check_shuffle d_check_shuffle
  g_check_shuffle : mg "check_shuffle" = some (.ref a_check_shuffle)
  a_law_mixed : Addr
  d_law_mixed : FuncData
  F_law_mixed : Fun K "_law_mixed" "_law_mixed" s_law_mixed a_law_mixed d_law_mixed
  g_law_mixed : mg "_law_mixed" = some (.ref a_law_mixed)
  a_law_ringed : Addr
  d_law_ringed : FuncData
  F_law_ringed : Fun K "_law_ringed" "_law_ringed" s_law_ringed a_law_ringed d_law_ringed
  g_law_ringed : mg "_law_ringed" = some (.ref a_law_ringed)
  a_check_many : Addr
  d_check_many : FuncData
  F_check_many : Fun K "check_many" "check_many" s_check_many a_check_many d_check_many
  g_check_many : mg "check_many" = some (.ref a_check_many)
  a_lengths : Addr
  d_lengths : FuncData
  F_lengths : Fun K "lengths" "lengths" s_lengths a_lengths d_lengths
  g_lengths : mg "lengths" = some (.ref a_lengths)
  a_turned : Addr
  d_turned : FuncData
  F_turned : Fun K "turned" "turned" s_turned a_turned d_turned
  g_turned : mg "turned" = some (.ref a_turned)
  a_beside : Addr
  d_beside : FuncData
  F_beside : Fun K "beside" "beside" s_beside a_beside d_beside
  g_beside : mg "beside" = some (.ref a_beside)
  a_paired : Addr
  d_paired : FuncData
  F_paired : Fun K "paired" "paired" s_paired a_paired d_paired
  g_paired : mg "paired" = some (.ref a_paired)
  a_new_numbers : Addr
  d_new_numbers : FuncData
  F_new_numbers : Fun K "new_numbers" "new_numbers" s_new_numbers a_new_numbers d_new_numbers
  g_new_numbers : mg "new_numbers" = some (.ref a_new_numbers)
  a_added : Addr
  d_added : FuncData
  F_added : Fun K "added" "added" s_added a_added d_added
  g_added : mg "added" = some (.ref a_added)
  a_multiplied : Addr
  d_multiplied : FuncData
  F_multiplied : Fun K "multiplied" "multiplied" s_multiplied a_multiplied d_multiplied
  g_multiplied : mg "multiplied" = some (.ref a_multiplied)
  a_each : Addr
  d_each : FuncData
  F_each : Fun K "each" "each" s_each a_each d_each
  g_each : mg "each" = some (.ref a_each)
  a_law_deck : Addr
  d_law_deck : FuncData
  F_law_deck : Fun K "_law_deck" "_law_deck" s_law_deck a_law_deck d_law_deck
  g_law_deck : mg "_law_deck" = some (.ref a_law_deck)
  a_back_row : Addr
  d_back_row : FuncData
  F_back_row : Fun K "back_row" "back_row" s_back_row a_back_row d_back_row
  g_back_row : mg "back_row" = some (.ref a_back_row)
  a_first_bar : Addr
  d_first_bar : FuncData
  F_first_bar : Fun K "first_bar" "first_bar" s_first_bar a_first_bar d_first_bar
  g_first_bar : mg "first_bar" = some (.ref a_first_bar)
  a_rings : Addr
  d_rings : FuncData
  F_rings : Fun K "rings" "rings" s_rings a_rings d_rings
  g_rings : mg "rings" = some (.ref a_rings)
  a_law_right : Addr
  d_law_right : FuncData
  F_law_right : Fun K "_law_right" "_law_right" s_law_right a_law_right d_law_right
  g_law_right : mg "_law_right" = some (.ref a_law_right)
  a_law : Addr
  d_law : FuncData
  F_law : Fun K "law" "law" s_law a_law d_law
  g_law : mg "law" = some (.ref a_law)
  t_MOST_NUMBERS : Tok
  c_MOST_NUMBERS : mg "MOST_NUMBERS" = some (.int 300 t_MOST_NUMBERS)
  t_MOST_THINGS : Tok
  c_MOST_THINGS : mg "MOST_THINGS" = some (.int 300 t_MOST_THINGS)
  z_abs : mg "abs" = none
  z_all : mg "all" = none
  z_bool : mg "bool" = none
  z_enumerate : mg "enumerate" = none
  z_int : mg "int" = none
  z_isinstance : mg "isinstance" = none
  z_len : mg "len" = none
  z_list : mg "list" = none
  z_max : mg "max" = none
  z_min : mg "min" = none
  z_range : mg "range" = none
  z_sorted : mg "sorted" = none
  z_sum : mg "sum" = none
  z_tuple : mg "tuple" = none
  z_zip : mg "zip" = none
section
variable {P : Program} {w : World} {K : PySem.W.Frag} {mg : Str → Option Value} {base : Heap}
theorem b_is_whole (T : Txt K mg) : Binds K T.d_is_whole ["value"] [] := T.F_is_whole.binds fun _ _ _ _ _ _ us hl => match us, hl with | [_], _ => rfl
theorem b_rings_in (T : Txt K mg) : Binds K T.d_rings_in ["shuffle"] [] := T.F_rings_in.binds fun _ _ _ _ _ _ us hl => match us, hl with | [_], _ => rfl
theorem b_check_things (T : Txt K mg) : Binds K T.d_check_things ["many"] [] := T.F_check_things.binds fun _ _ _ _ _ _ us hl => match us, hl with | [_], _ => rfl
theorem b_law_well (T : Txt K mg) : Binds K T.d_law_well ["script", "k"] [] := T.F_law_well.binds fun _ _ _ _ _ _ us hl => match us, hl with | [_, _], _ => rfl
theorem b_law_draw (T : Txt K mg) : Binds K T.d_law_draw ["well", "many"] [] := T.F_law_draw.binds fun _ _ _ _ _ _ us hl => match us, hl with | [_, _], _ => rfl
theorem b_law_common (T : Txt K mg) : Binds K T.d_law_common ["first", "second"] [] := T.F_law_common.binds fun _ _ _ _ _ _ us hl => match us, hl with | [_, _], _ => rfl
theorem b_is_from_to (T : Txt K mg) : Binds K T.d_is_from_to ["value", "least", "most"] [] := T.F_is_from_to.binds fun _ _ _ _ _ _ us hl => match us, hl with | [_, _, _], _ => rfl
theorem b_check_row (T : Txt K mg) : Binds K T.d_check_row ["row"] [] := T.F_check_row.binds fun _ _ _ _ _ _ us hl => match us, hl with | [_], _ => rfl
theorem b_check_shuffle (T : Txt K mg) : Binds K T.d_check_shuffle ["shuffle"] [] := T.F_check_shuffle.binds fun _ _ _ _ _ _ us hl => match us, hl with | [_], _ => rfl
theorem b_law_mixed (T : Txt K mg) : Binds K T.d_law_mixed ["well", "size"] [] := T.F_law_mixed.binds fun _ _ _ _ _ _ us hl => match us, hl with | [_, _], _ => rfl
theorem b_law_ringed (T : Txt K mg) : Binds K T.d_law_ringed ["well", "places", "longest"] [] := T.F_law_ringed.binds fun _ _ _ _ _ _ us hl => match us, hl with | [_, _, _], _ => rfl
theorem b_check_many (T : Txt K mg) : Binds K T.d_check_many ["many"] [] := T.F_check_many.binds fun _ _ _ _ _ _ us hl => match us, hl with | [_], _ => rfl
theorem b_lengths (T : Txt K mg) : Binds K T.d_lengths ["shuffle"] [] := T.F_lengths.binds fun _ _ _ _ _ _ us hl => match us, hl with | [_], _ => rfl
theorem b_turned (T : Txt K mg) : Binds K T.d_turned ["shuffle", "times"] [] := T.F_turned.binds fun _ _ _ _ _ _ us hl => match us, hl with | [_, _], _ => rfl
theorem b_beside (T : Txt K mg) : Binds K T.d_beside ["one", "two"] [] := T.F_beside.binds fun _ _ _ _ _ _ us hl => match us, hl with | [_, _], _ => rfl
theorem b_paired (T : Txt K mg) : Binds K T.d_paired ["one", "two"] [] := T.F_paired.binds fun _ _ _ _ _ _ us hl => match us, hl with | [_, _], _ => rfl
theorem b_new_numbers (T : Txt K mg) : Binds K T.d_new_numbers ["row"] [] := T.F_new_numbers.binds fun _ _ _ _ _ _ us hl => match us, hl with | [_], _ => rfl
theorem b_added (T : Txt K mg) : Binds K T.d_added ["one", "two"] [] := T.F_added.binds fun _ _ _ _ _ _ us hl => match us, hl with | [_, _], _ => rfl
theorem b_multiplied (T : Txt K mg) : Binds K T.d_multiplied ["one", "two"] [] := T.F_multiplied.binds fun _ _ _ _ _ _ us hl => match us, hl with | [_, _], _ => rfl
theorem b_each (T : Txt K mg) : Binds K T.d_each ["row", "step"] [] := T.F_each.binds fun _ _ _ _ _ _ us hl => match us, hl with | [_, _], _ => rfl
theorem b_law_deck (T : Txt K mg) : Binds K T.d_law_deck ["well", "most"] [] := T.F_law_deck.binds fun _ _ _ _ _ _ us hl => match us, hl with | [_, _], _ => rfl
theorem b_back_row (T : Txt K mg) : Binds K T.d_back_row ["shuffle", "many"] [] := T.F_back_row.binds fun _ _ _ _ _ _ us hl => match us, hl with | [_, _], _ => rfl
theorem b_first_bar (T : Txt K mg) : Binds K T.d_first_bar ["row"] [] := T.F_first_bar.binds fun _ _ _ _ _ _ us hl => match us, hl with | [_], _ => rfl
theorem b_rings (T : Txt K mg) : Binds K T.d_rings ["row"] [] := T.F_rings.binds fun _ _ _ _ _ _ us hl => match us, hl with | [_], _ => rfl
theorem b_law_right (T : Txt K mg) : Binds K T.d_law_right ["well"] [] := T.F_law_right.binds fun _ _ _ _ _ _ us hl => match us, hl with | [_], _ => rfl
theorem b_law (T : Txt K mg) : Binds K T.d_law ["script"] [] := T.F_law.binds fun _ _ _ _ _ _ us hl => match us, hl with | [_], _ => rfl
/-! ### is_whole -/
def sp_is_whole (K : PySem.W.Frag) : Sp := fun vs H Q _ => ∃ n : Int, vs = [.int n] ∧ RetV (.bl true) H Q
theorem v_is_whole {K : PySem.W.Frag} {H : Hp} (n : Int) : SpV (sp_is_whole K) [.int n] H (.bl true) := fun H1 e Q q E => ⟨n, rfl, q⟩
theorem ok_is_whole (T : Txt K mg) : FnG P w K mg base CX0 1 T.a_is_whole T.d_is_whole ["value"] (sp_is_whole K) := by
  refine okG T.F_is_whole sc_is_whole (fun vs H Q E h => ?_) (fun cdv A out s H vs Q E hr h => ?_)
  · obtain ⟨n, rfl, q⟩ := h
    rfl
  · obtain ⟨n, rfl, q⟩ := h
    refine ⟨_, (pss_one (ps_ret (pe_and (pe_callB (call_isiK' (K := K) rfl) (by rfl) T.z_isinstance bt_isinstance (pa_cons (pv 0) (pa_cons (pe_bltn (v := .ty "int") (by rfl) T.z_int bt_int rfl) pa_nil))) (pe_one (pe_not (pe_callB (call_isiK' (K := K) rfl) (by rfl) T.z_isinstance bt_isinstance (pa_cons (pv 0) (pa_cons (pe_bltn (v := .ty "bool") (by rfl) T.z_bool bt_bool rfl) pa_nil)))))))), ?_⟩
    exact s_ret (ev_andV (ev_isi (ev_var rfl) (fun _ _ => .base (.int n)) kb_int_int) fun _ => ev_notV (ev_isi (ev_var rfl) (fun _ _ => .base (.int n)) kb_int_bool)) q
/-! ### _rings_in -/
def sp_rings_in (K : PySem.W.Frag) : Sp := fun vs H Q _ => ∃ (a : Addr) (ds : List Int), vs = [.ref a] ∧ SqT K H a (vi ds) ∧ Shf ds ∧ (Rings ds (ringsL ds ds.length) ds.length → RetN (ringsL ds ds.length) H Q)
theorem n_rings_in {K : PySem.W.Frag} {H : Hp} {a : Addr} {ds : List Int} (h : SqT K H a (vi ds)) (s : Shf ds) : SpN (sp_rings_in K) [.ref a] H (ringsL ds ds.length) :=
  fun H1 e Q q E => ⟨a, ds, rfl, ex_t e h, s, fun _ => q⟩
theorem ok_rings_in (T : Txt K mg) : FnG P w K mg base CX0 1 T.a_rings_in T.d_rings_in ["shuffle"] (sp_rings_in K) := by
  refine okG T.F_rings_in sc_rings_in (fun vs H Q E h => ?_) (fun cdv A out s H vs Q E hr h => ?_)
  · obtain ⟨a, ds, rfl, hA, hs, q⟩ := h
    rfl
  · obtain ⟨a, ds, rfl, hA, hs, q⟩ := h
    refine ⟨_, (pss_cons (ps_set (i := 1) sc_rings_in.nd rfl (.inl rfl) (pe_lst pa_nil))
    (pss_cons (ps_set (i := 2) sc_rings_in.nd rfl (.inl rfl) (pe_op op_rep (pe_lst (pa_cons pe_bl pa_nil)) (pe_callB (call_lenK (K := K) rfl) (by rfl) T.z_len bt_len (pa_cons (pv 0) pa_nil))))
    (pss_cons (ps_for PassesOwn.never rfl (pi_range1 (by rfl) T.z_range (pa_cons (pe_callB (call_lenK (K := K) rfl) (by rfl) T.z_len bt_len (pa_cons (pv 0) pa_nil)) pa_nil)) (pg_name (i := 3) sc_rings_in.nd rfl (.inl rfl))
      (pss_one (ps_if (pt_not (pt_val (pe_ix (ix_listK (K := K) rfl) (pv 2) (pv 3) (fun _ _ => rfl))))
        (pss_cons (ps_set (i := 4) sc_rings_in.nd rfl (.inl rfl) (pe_lst pa_nil))
        (pss_cons (ps_set (i := 5) sc_rings_in.nd rfl (.inl rfl) (pv 3))
        (pss_cons (ps_while PassesOwn.never (pt_not (pt_val (pe_ix (ix_listK (K := K) rfl) (pv 2) (pv 5) (fun _ _ => rfl))))
          (pss_cons (ps_asg pe_bl (pg_sub (pv 2) (pv 5) set_list))
          (pss_cons (ps_expr (pe_bm PySem.F.plainAttrs_list PySem.F.slot_list_append PySem.F.type_list_append mt_append (pv 4) (pa_cons (pv 5) pa_nil)))
          (pss_one (ps_set (i := 5) sc_rings_in.nd rfl (.inl rfl) (pe_ix (ix_tupK (K := K) rfl) (pv 0) (pv 5) (fun _ _ => rfl)))))))
        (pss_one (ps_expr (pe_bm PySem.F.plainAttrs_list PySem.F.slot_list_append PySem.F.type_list_append mt_append (pv 1) (pa_cons (pv 4) pa_nil)))))))
        pss_nil)))
    (pss_one (ps_ret (pv 1)))))), ?_⟩
    have hl : ((vi ds).length : Int) = (ds.length : Int) := by rw [List.length_map]
    have h3 := hs.2.1
    refine q_asgL (el_lst ea_nil (Nat.zero_le _)) fun pf H1 f1 e1 h1 => ?_
    refine q_asgL (xs := marks ds.length []) (el_is (el_rep (n := (ds.length : Int)) (el_lst (ea_cons ev_c ea_nil) (by show 1 ≤ 100000; decide)) (fun H1 e2 => ev_is (ev_lenT (ev_var rfl) (ex_t (e1.trans e2) hA)) (by rw [hl])) (by omega) (by show 1 * _ ≤ _; omega) (by omega)) (by rw [Int.toNat_natCast]; exact marks_nil _)) fun ps H2 f2 e2 h2 => ?_
    have g1 := e2 _ _ h1
    have nsf : ps ≠ pf := ne_of_none' f2 h1
    have fs : H ps = none := fresh_back e1 f2
    refine q_forR1 (n := (ds.length : Int)) (ea_cons (ev_is (ev_lenT (ev_var rfl) (ex_t (e1.trans e2) hA)) (by rw [hl])) ea_nil) (by omega)
      (fun i σ' H' => ∃ (qs : List Addr) (y3 y4 y5 : Option V), σ' = [some (.ref a), some (.ref pf), some (.ref ps), y3, y4, y5] ∧ Ex H H' ∧ H' pf = some (.lst (qs.map .ref)) ∧ H' ps = some (.lst (marks ds.length (ringsL ds i).flatten)) ∧ Nest H' qs (ringsL ds i) ∧ (∀ q ∈ qs, q ≠ pf ∧ q ≠ ps ∧ H q = none) ∧ Rings ds (ringsL ds i) i) ?_ ?_ ?_
    · intro H3 e3
      exact ⟨[], _, _, _, rfl, (e1.trans e2).trans e3, e3 _ _ g1, e3 _ _ h2, Nest.nil, (fun q h => nomatch h), Rings.nil ds⟩
    · rintro i σ' H' hi ⟨qs, y3, y4, y5, rfl, e, gf, gs, ne, nq, rg⟩
      have hi' : i < ds.length := by omega
      by_cases hm : i ∈ (ringsL ds i).flatten
      · have er : ringsL ds (i + 1) = ringsL ds i := if_pos hm
        refine s_when (b := false) (et_not (a := true) (et_test (ev_is (ev_op (ev_var rfl) (ev_var rfl) (rv_ixL (sq_of gs) (atI_nat (marks_at _ hi')))) (by rw [decide_eq_true hm])))) (fun h => nomatch h) fun _ H3 e3 => ?_
        refine ⟨qs, _, _, _, rfl, e.trans e3, e3 _ _ gf, ?_, ?_, nq, ?_⟩
        · rw [er]
          exact e3 _ _ gs
        · rw [er]
          exact ne.ex e3
        · rw [er]
          exact rg.skip hm
      · have er : ringsL ds (i + 1) = ringsL ds i ++ [ringL ds i] := if_neg hm
        refine s_when (b := true) (et_not (a := false) (et_test (ev_is (ev_op (ev_var rfl) (ev_var rfl) (rv_ixL (sq_of gs) (atI_nat (marks_at _ hi')))) (by rw [decide_eq_false hm])))) (fun _ H3 e3 => ?_) (fun h => nomatch h)
        refine q_asgL (el_lst ea_nil (Nat.zero_le _)) fun pr H4 f4 e4 h4 => ?_
        have fr : H pr = none := fresh_back (e.trans e3) f4
        have nrf : pr ≠ pf := ne_of_none' f4 (e3 _ _ gf)
        have nrs : pr ≠ ps := ne_of_none' f4 (e3 _ _ gs)
        have nrq : ∀ q ∈ qs, q ≠ pr := fun q hq => ne.ne (ne.ex e3) hq f4
        refine q_asg (ev_var rfl) fun H5 e5 => ?_
        have e35 := (e3.trans e4).trans e5
        have M0 : (ringsL ds i).flatten.length ≤ ds.length := nlen_le rg.nd rg.lt
        refine q_while (fun m σ' H' => ∃ j, σ' = [some (.ref a), some (.ref pf), some (.ref ps), some (.int (i : Int)), some (.ref pr), some (.int (orb ds i j : Int))] ∧ Ex H H' ∧ H' pf = some (.lst (qs.map .ref)) ∧ H' ps = some (.lst (marks ds.length ((ringsL ds i).flatten ++ track ds i j))) ∧ H' pr = some (.lst (vi (up (track ds i j)))) ∧ Nest H' qs (ringsL ds i) ∧
          ((ringsL ds i).flatten ++ track ds i j).Nodup ∧ m + ((ringsL ds i).flatten.length + j) = ds.length) (ds.length - (ringsL ds i).flatten.length) ?_ ?_
        · refine ⟨0, rfl, e.trans e35, e35 _ _ gf, ?_, e5 _ _ h4, ne.ex e35, ?_, by omega⟩
          · show _ = some (HO.lst (marks ds.length ((ringsL ds i).flatten ++ [])))
            rw [List.append_nil]
            exact e35 _ _ gs
          · show ((ringsL ds i).flatten ++ []).Nodup
            rw [List.append_nil]
            exact rg.nd
        · rintro m σ'' H'' ⟨j, rfl, e', gf', gs', gr', ne', nd, hm'⟩
          have ho := orb_lt hs hi' j
          by_cases hmm : orb ds i j ∈ (ringsL ds i).flatten ++ track ds i j
          · refine ⟨false, et_not (a := true) (et_test (ev_is (ev_op (ev_var rfl) (ev_var rfl) (rv_ixL (sq_of gs') (atI_nat (marks_at _ ho)))) (by rw [decide_eq_true hmm]))), (fun h => nomatch h), fun _ H6 e6 => ?_⟩
            have hr := ring_close hs hi' hm (rg.fro hs) nd hmm
            refine s_app (e6 _ _ gf') (ev_var rfl) (ev_var rfl) ?_ fun H7 e7 => ?_
            · have : (ringsL ds i).length ≤ (ringsL ds i).flatten.length := rings_le fun r h => (rg.ring r h).pos
              rw [List.length_map, ne.1]
              omega
            refine ⟨qs ++ [pr], _, _, _, rfl, ((e'.trans e6).trans e7).mut (fresh_back (Ex.refl H) f1), ?_, ?_, ?_, ?_, ?_⟩
            · rw [upd_same, List.map_append]
              rfl
            · rw [upd_ne nsf, er, List.flatten_append, List.flatten_singleton, ← track_is hr]
              exact e7 _ _ (e6 _ _ gs')
            · rw [er, ← track_is hr]
              refine Nest.put (((ne'.ex e6).ex e7).upd fun q hq => (nq q hq).1) ?_
              rw [upd_ne nrf]
              exact e7 _ _ (e6 _ _ gr')
            · intro q hq
              rcases List.mem_append.mp hq with h | h
              · exact nq q h
              · rw [List.mem_singleton.mp h]
                exact ⟨nrf, nrs, fr⟩
            · rw [er, ← track_is hr]
              exact rg.put hr nd
          · refine ⟨true, et_not (a := false) (et_test (ev_is (ev_op (ev_var rfl) (ev_var rfl) (rv_ixL (sq_of gs') (atI_nat (marks_at _ ho)))) (by rw [decide_eq_false hmm]))), fun _ H6 e6 => ?_, (fun h => nomatch h)⟩
            have nd2 : ((ringsL ds i).flatten ++ track ds i (j + 1)).Nodup := by
              rw [track_succ, ← List.append_assoc]
              refine List.nodup_append.mpr ⟨nd, List.pairwise_singleton _ _, fun x hx y hy e => ?_⟩
              rw [List.mem_singleton.mp hy] at e
              exact hmm (e ▸ hx)
            have lt2 : ((ringsL ds i).flatten ++ track ds i (j + 1)).length ≤ ds.length := by
              refine nlen_le nd2 fun x hx => ?_
              rcases List.mem_append.mp hx with h | h
              · exact rg.lt x h
              · obtain ⟨t, _, rfl⟩ := List.mem_map.mp h
                exact orb_lt hs hi' t
            rw [List.length_append, track_length] at lt2
            refine ⟨_, fun σ2 H2 h => ⟨m - 1, by omega, h⟩, ?_⟩
            refine q_setL (j := orb ds i j) (e6 _ _ gs') ev_c (ev_var rfl) (ev_var rfl) (by rw [marks_length]; exact ho) fun H7 e7 => ?_
            refine q_app (xs := vi (up (track ds i j))) ?_ (ev_var rfl) (ev_var rfl) (by rw [List.length_map, up_length, track_length]; omega) fun H8 e8 => ?_
            · rw [upd_ne nrs]
              exact e7 _ _ (e6 _ _ gr')
            have eA : Ex H (upd H7 ps (.lst (marks ds.length ((ringsL ds i).flatten ++ track ds i j ++ [orb ds i j])))) := ((e'.trans e6).trans e7).mut fs
            rw [marks_set _ ho] at e8
            refine s_asg (ev_op (ev_var rfl) (ev_var rfl) (rv_ixT (ex_t ((eA.trans e8).mut fr) hA) (atI_nat (nx_at hs ho)))) fun H9 e9 => ?_
            refine ⟨j + 1, rfl, (((eA.trans e8).mut fr).trans e9), ?_, ?_, ?_, ?_, nd2, by omega⟩
            · refine e9 _ _ ?_
              rw [upd_ne (Ne.symm nrf)]
              refine e8 _ _ ?_
              rw [upd_ne (Ne.symm nsf)]
              exact e7 _ _ (e6 _ _ gf')
            · refine e9 _ _ ?_
              rw [upd_ne (Ne.symm nrs)]
              refine e8 _ _ ?_
              rw [upd_same, track_succ, List.append_assoc]
            · refine e9 _ _ ?_
              rw [upd_same, track_succ]
              unfold up vi
              simp only [List.map_append]
              rfl
            · refine ((((((ne'.ex e6).ex e7).upd fun q hq => (nq q hq).2.1).ex e8).upd nrq).ex e9)
    · rintro σ' H' ⟨qs, y3, y4, y5, rfl, e, gf, gs, ne, nq, rg⟩
      rw [Int.toNat_natCast] at gs ne rg
      refine s_ret (ev_var rfl) fun H3 e3 => ?_
      exact q rg pf qs H3 f1 (e.trans e3) (e3 _ _ gf) (ne.ex e3) fun b hb => (nq b hb).2.2
/-! ### _check_things -/
def sp_check_things (K : PySem.W.Frag) : Sp := fun vs H Q _ => ∃ m : Int, vs = [.int m] ∧ 1 ≤ m ∧ m ≤ 300 ∧ RetV .non H Q
theorem v_check_things {K : PySem.W.Frag} {H : Hp} {m : Int} (h1 : 1 ≤ m) (h2 : m ≤ 300) : SpV (sp_check_things K) [.int m] H .non := fun H1 e Q q E => ⟨m, rfl, h1, h2, q⟩
theorem ok_check_things (T : Txt K mg) : FnG P w K mg base CX0 1 T.a_check_things T.d_check_things ["many"] (sp_check_things K) := by
  refine okG T.F_check_things sc_check_things (fun vs H Q E h => ?_) (fun cdv A out s H vs Q E hr h => ?_)
  · obtain ⟨m, rfl, h1, h2, q⟩ := h
    rfl
  · obtain ⟨m, rfl, h1, h2, q⟩ := h
    refine ⟨_, (pss_one (ps_if (pt_not (pt_chain op_le op_le pe_int (pv 0) (pe_glob (v := .int 300) rfl T.c_MOST_THINGS ⟨_, rfl⟩)))
      (pss_one ps_never)
      pss_nil)), ?_⟩
    exact s_when (b := false) (et_not (a := true) (et_test (ev_chain (a := true) (b := true) ev_c (ev_var rfl) (rv_b (decide_eq_true h1)) (fun _ => ev_c) fun _ => rv_b (decide_eq_true h2)))) (fun h => nomatch h) fun _ => q
/-! ### _law_well -/
def sp_law_well (K : PySem.W.Frag) : Sp := fun vs H Q _ => ∃ (a : Addr) (ns : List Int) (k : Int), vs = [.ref a, .int k] ∧ SqL K H a (vi ns) ∧ 0 ≤ k ∧ k ≤ 63 ∧ ∀ p H2, H p = none → Ex H H2 → Well H2 p 0 → Q (.ref p) H2
theorem ok_law_well (T : Txt K mg) : FnG P w K mg base CX0 1 T.a_law_well T.d_law_well ["script", "k"] (sp_law_well K) := by
  refine okG T.F_law_well sc_law_well (fun vs H Q E h => ?_) (fun cdv A out s H vs Q E hr h => ?_)
  · obtain ⟨a, ns, k, rfl, hS, h0, h1, q⟩ := h
    rfl
  · obtain ⟨a, ns, k, rfl, hS, h0, h1, q⟩ := h
    refine ⟨_, (pss_cons (ps_set (i := 2) sc_law_well.nd rfl (.inl rfl) (pe_ifExp (pt_cmpR op_lt (pv 1) (pe_callB (call_lenK (K := K) rfl) (by rfl) T.z_len bt_len (pa_cons (pv 0) pa_nil)) (nomark _)) (pe_callB call_abs (by rfl) T.z_abs bt_abs (pa_cons (pe_callTy call_int1 (by rfl) T.z_int bt_int (pa_cons (pe_ix (ix_listK (K := K) rfl) (pv 0) (pv 1) (fun _ _ => rfl)) pa_nil)) pa_nil)) (pe_op op_mul pe_int (pv 1))))
    (pss_one (ps_ret (pe_lst (pa_cons (pe_callB (call_max2 rfl) (by rfl) T.z_max bt_max (pa_cons pe_int (pa_cons (pe_op op_sub (pv 2) (pe_op op_powW pe_int pe_int)) pa_nil))) (pa_cons (pe_op op_add (pe_op op_add (pe_op op_mod (pe_callTy call_int1 (by rfl) T.z_int bt_int (pa_cons (pv 2) pa_nil)) (pe_op op_add (pe_op op_powW pe_int pe_int) pe_int)) (pe_op op_mul pe_int (pv 1))) pe_int) (pa_cons pe_int pa_nil))))))), ?_⟩
    refine q_asg (v := .int (if k < (ns.length : Int) then (if ns.getD k.toNat 0 < 0 then -ns.getD k.toNat 0 else ns.getD k.toNat 0) else 41 * k)) ?_ fun H1 e1 => ?_
    · by_cases hk : k < ns.length
      · obtain ⟨j, rfl⟩ : ∃ j : Nat, k = j := ⟨k.toNat, by omega⟩
        have hj : j < ns.length := by omega
        have hx : (vi ns)[j]? = some (.int (ns.getD j 0)) := by
          rw [vi_at hj, List.getD_eq_getElem?_getD, List.getElem?_eq_getElem hj]
          rfl
        rw [if_pos hk]
        exact ev_if (b := true) (et_test (ev_op (ev_var rfl) (ev_len (ev_var rfl) hS) (rv_b (decide_eq_true (by rw [List.length_map]; exact hk))))) (fun _ => ev_abs (ev_int1 (ev_op (ev_var rfl) (ev_var rfl) (rv_ixL hS (atI_nat hx))))) (fun h => nomatch h)
      · rw [if_neg hk]
        exact ev_if (b := false) (et_test (ev_op (ev_var rfl) (ev_len (ev_var rfl) hS) (rv_b (decide_eq_false (by rw [List.length_map]; exact hk))))) (fun h => nomatch h) (fun _ => ev_op ev_c (ev_var rfl) (rv_I (cml (by decide))))
    generalize (if k < (ns.length : Int) then (if ns.getD k.toNat 0 < 0 then -ns.getD k.toNat 0 else ns.getD k.toNat 0) else 41 * k) = cell
    refine s_retL (xs := [_, _, _]) (el_lst (ea_cons (ev_max2 ev_c (ev_op (ev_var rfl) (ev_op ev_c ev_c (rv_I (cpw (by decide) (by decide) (by decide)))) rv_I0)) (ea_cons (ev_op (ev_op (ev_op (ev_int1 (ev_var rfl)) (ev_op (ev_op ev_c ev_c (rv_I (cpw (by decide) (by decide) (by decide)))) ev_c rv_I0) (rv_I (by have := p10_pos (Int.toNat 36); omega))) (ev_op ev_c (ev_var rfl) (rv_I (cml (by decide)))) rv_I0) ev_c rv_I0) (ea_cons ev_c ea_nil))) (by show 3 ≤ 100000; decide)) fun p H2 hp e2 h2 => ?_
    refine q p H2 (fresh_back e1 hp) (e1.trans e2) ⟨_, _, _, h2, ?_, ?_, by decide, by decide⟩
    · have := Int.emod_nonneg cell (show (10 : Int) ^ Int.toNat 36 + 67 ≠ 0 by have := p10_pos (Int.toNat 36); omega)
      omega
    · have := Int.emod_lt_of_pos cell (show (0 : Int) < 10 ^ Int.toNat 36 + 67 by have := p10_pos (Int.toNat 36); omega)
      have e : (10 : Int) ^ Int.toNat 36 = 1000000000000000000000000000000000000 := by decide
      omega
/-! ### _law_draw -/
abbrev sp_law_draw := sp_dr
theorem ok_law_draw (T : Txt K mg) : FnG P w K mg base CX0 1 T.a_law_draw T.d_law_draw ["well", "many"] (sp_law_draw K) := by
  refine okG T.F_law_draw sc_law_draw (fun vs H Q E h => ?_) (fun cdv A out s H vs Q E hr h => ?_)
  · obtain ⟨a, n, m, rfl, ⟨x, y, c, hW, y0, y1, c0, c1⟩, hn, m0, m1, q⟩ := h
    rfl
  · obtain ⟨a, n, m, rfl, ⟨x, y, c, hW, y0, y1, c0, c1⟩, hn, m0, m1, q⟩ := h
    refine ⟨_, (pss_cons (ps_if (pt_cmpR op_gt (pe_ix (ix_listK (K := K) rfl) (pv 0) pe_int (fun _ _ => rfl)) pe_int (nomark _))
      (pss_cons (ps_set (i := 2) sc_law_draw.nd rfl (.inl rfl) (pe_op op_mod (pe_callTy call_int1 (by rfl) T.z_int bt_int (pa_cons (pe_ix (ix_listK (K := K) rfl) (pv 0) pe_int (fun _ _ => rfl)) pa_nil)) (pv 1)))
      (pss_cons (ps_asg (pe_op op_fdivW (pe_ix (ix_listK (K := K) rfl) (pv 0) pe_int (fun _ _ => rfl)) (pv 1)) (pg_sub (pv 0) pe_int set_list))
      (pss_one (ps_ret (pv 2)))))
      pss_nil)
    (pss_cons (ps_asg (pe_op op_add (pe_ix (ix_listK (K := K) rfl) (pv 0) pe_int (fun _ _ => rfl)) pe_int) (pg_sub (pv 0) pe_int set_list))
    (pss_cons (ps_set (i := 3) sc_law_draw.nd rfl (.inl rfl) (pe_op op_mod (pe_callTy call_int1 (by rfl) T.z_int bt_int (pa_cons (pe_op op_powW (pe_op op_add (pe_ix (ix_listK (K := K) rfl) (pv 0) pe_int (fun _ _ => rfl)) (pe_op op_mul pe_int (pe_ix (ix_listK (K := K) rfl) (pv 0) pe_int (fun _ _ => rfl)))) pe_int) pa_nil)) (pe_op op_add (pe_op op_powW pe_int pe_int) pe_int)))
    (pss_cons (ps_set (i := 3) sc_law_draw.nd rfl (.inl rfl) (pe_op op_mod (pe_callTy call_int1 (by rfl) T.z_int bt_int (pa_cons (pe_op op_powW (pe_op op_add (pv 3) (pe_op op_mul pe_int (pe_ix (ix_listK (K := K) rfl) (pv 0) pe_int (fun _ _ => rfl)))) pe_int) pa_nil)) (pe_op op_add (pe_op op_powW pe_int pe_int) pe_int)))
    (pss_one (ps_ret (pe_op op_mod (pe_callTy call_int1 (by rfl) T.z_int bt_int (pa_cons (pe_op op_fdivW (pv 3) (pe_op op_powW pe_int pe_int)) pa_nil)) (pv 1)))))))), ?_⟩
    have hS := sq_of (K := K) hW
    by_cases hx : 0 < x
    · refine q_when (b := true) (et_test (ev_op (ev_op (ev_var rfl) ev_c (rv_ixL hS rfl)) ev_c (rv_b (decide_eq_true hx)))) (fun _ H1 e1 => ?_) (fun h => nomatch h)
      refine q_asg (ev_op (ev_int1 (ev_op (ev_var rfl) ev_c (rv_ixL (ex_l e1 hS) rfl))) (ev_var rfl) (rv_I m0)) fun H2 e2 => ?_
      have hW2 := e2 _ _ (e1 _ _ hW)
      refine q_setL (j := 0) hW2 (ev_op (ev_op (ev_var rfl) ev_c (rv_ixL (sq_of hW2) rfl)) (ev_var rfl) (rv_I (cdw8 _ m0 m1))) (ev_var rfl) ev_c (by show 0 < 3; decide) fun H3 e3 => ?_
      refine s_ret (ev_var rfl) fun H4 e4 => ?_
      refine q _ H4 (((But.ex ((e1.trans e2).trans e3)).trans .at).trans (But.ex e4)) ⟨_, _, _, e4 _ _ upd_same, y0, y1, c0, by omega⟩ (Int.emod_nonneg _ (by omega)) (Int.emod_lt_of_pos _ m0)
    · refine q_when (b := false) (et_test (ev_op (ev_op (ev_var rfl) ev_c (rv_ixL hS rfl)) ev_c (rv_b (decide_eq_false hx)))) (fun h => nomatch h) (fun _ H1 e1 => ?_)
      have hW1 := e1 _ _ hW
      refine q_setL (j := 2) hW1 (ev_op (ev_op (ev_var rfl) ev_c (rv_ixL (sq_of hW1) rfl)) ev_c rv_I0) (ev_var rfl) ev_c (by show 2 < 3; decide) fun H2 e2 => ?_
      have hW2 : upd H2 a (.lst ([.int x, .int y, .int c].set 2 (.int (c + 1)))) a = some (.lst [.int x, .int y, .int (c + 1)]) := upd_same
      have hS2 := sq_of (K := K) hW2
      refine q_asg (ev_op (ev_int1 (ev_op (ev_op (ev_op (ev_var rfl) ev_c (rv_ixL hS2 rfl)) (ev_op ev_c (ev_op (ev_var rfl) ev_c (rv_ixL hS2 rfl)) (rv_I (cml (by decide)))) rv_I0) ev_c (rv_I (cpw (by omega) (by decide) (by decide))))) (ev_op (ev_op ev_c ev_c (rv_I (cpw (by decide) (by decide) (by decide)))) ev_c rv_I0) (rv_I (by have := p10_pos (Int.toNat 43); omega))) fun H3 e3 => ?_
      have hS3 := ex_l e3 hS2
      have b0 := Int.emod_nonneg ((y + 15485863 * (c + 1)) ^ Int.toNat 5) (show (10 : Int) ^ Int.toNat 43 + 63 ≠ 0 by have := p10_pos (Int.toNat 43); omega)
      have b1 := Int.emod_lt_of_pos ((y + 15485863 * (c + 1)) ^ Int.toNat 5) (show (0 : Int) < 10 ^ Int.toNat 43 + 63 by have := p10_pos (Int.toNat 43); omega)
      have e43 : (10 : Int) ^ Int.toNat 43 = 10000000000000000000000000000000000000000000 := by decide
      refine q_asg (ev_op (ev_int1 (ev_op (ev_op (ev_var rfl) (ev_op ev_c (ev_op (ev_var rfl) ev_c (rv_ixL hS3 rfl)) (rv_I (cml (by decide)))) rv_I0) ev_c (rv_I (cpw (by omega) (by decide) (by decide))))) (ev_op (ev_op ev_c ev_c (rv_I (cpw (by decide) (by decide) (by decide)))) ev_c rv_I0) (rv_I (by have := p10_pos (Int.toNat 41); omega))) fun H4 e4 => ?_
      refine s_ret (ev_op (ev_int1 (ev_op (ev_var rfl) (ev_op ev_c ev_c (rv_I (cpw (by decide) (by decide) (by decide)))) (rv_I (cdw _ (p10_pos _) (by decide))))) (ev_var rfl) (rv_I m0)) fun H5 e5 => ?_
      refine q _ H5 ((((But.ex (e1.trans e2)).trans .at).trans (But.ex (e3.trans e4))).trans (But.ex e5)) ⟨_, _, _, e5 _ _ (e4 _ _ (e3 _ _ hW2)), y0, y1, by omega, by omega⟩ (Int.emod_nonneg _ (by omega)) (Int.emod_lt_of_pos _ m0)
/-! ### _law_common -/
def sp_law_common (K : PySem.W.Frag) : Sp := fun vs H Q _ => ∃ (f s : Nat), vs = [.int (f : Int), .int (s : Int)] ∧ 0 < f ∧ 0 < s ∧ s ≤ 300 ∧ RetV (.int ((Nat.lcm f s : Nat) : Int)) H Q
theorem v_law_common {K : PySem.W.Frag} {H : Hp} {f s : Nat} (h0 : 0 < f) (h1 : 0 < s) (h2 : s ≤ 300) : SpV (sp_law_common K) [.int (f : Int), .int (s : Int)] H (.int ((Nat.lcm f s : Nat) : Int)) := fun H1 e Q q E => ⟨f, s, rfl, h0, h1, h2, q⟩
/-- the multiple reached behind k looks -/
def mulT (f s : Nat) : Nat → Nat
  | 0 => f
  | k + 1 => if mulT f s k % s = 0 then mulT f s k else mulT f s k + f
theorem mulT_is {f s : Nat} : ∀ k, ∃ j, j ≤ k ∧ mulT f s k = f * (j + 1) ∧ (∀ j', j' < j → f * (j' + 1) % s ≠ 0) ∧ (j = k ∨ f * (j + 1) % s = 0)
  | 0 => ⟨0, Nat.le_refl _, (Nat.mul_one f).symm, fun _ h => absurd h (Nat.not_lt_zero _), .inl rfl⟩
  | k + 1 => by
    obtain ⟨j, h1, h2, h3, h4⟩ := mulT_is (f := f) (s := s) k
    have e : mulT f s (k + 1) = if mulT f s k % s = 0 then mulT f s k else mulT f s k + f := rfl
    by_cases c : mulT f s k % s = 0
    · rw [if_pos c] at e
      exact ⟨j, by omega, by rw [e, h2], h3, .inr (by rw [← h2]; exact c)⟩
    · rw [if_neg c] at e
      rcases h4 with h4 | h4
      · subst h4
        refine ⟨j + 1, Nat.le_refl _, by rw [e, h2]; exact (Nat.mul_succ f (j + 1)).symm, fun j' hj => ?_, .inl rfl⟩
        by_cases d : j' = j
        · rw [d, ← h2]
          exact c
        · exact h3 j' (by omega)
      · rw [← h2] at h4
        exact absurd h4 c
theorem mulT_lcm {f s : Nat} (hf : 0 < f) (hs : 0 < s) : mulT f s s = Nat.lcm f s := by
  obtain ⟨j, h1, h2, h3, h4⟩ := mulT_is (f := f) (s := s) s
  have hz : f * (j + 1) % s = 0 := by
    rcases h4 with h4 | h4
    · have := h3 (s - 1) (by omega)
      rw [show s - 1 + 1 = s by omega, Nat.mul_mod_left] at this
      exact absurd rfl this
    · exact h4
  have d1 : Nat.lcm f s ∣ f * (j + 1) := Nat.lcm_dvd (Nat.dvd_mul_right _ _) (Nat.dvd_of_mod_eq_zero hz)
  obtain ⟨q, hq⟩ := Nat.dvd_lcm_left f s
  have lp : 0 < Nat.lcm f s := Nat.lcm_pos hf hs
  have q0 : 0 < q := by
    rcases Nat.eq_zero_or_pos q with z | z
    · rw [z, Nat.mul_zero] at hq
      omega
    · exact z
  have sq : f * q % s = 0 := by
    rw [← hq]
    exact Nat.mod_eq_zero_of_dvd (Nat.dvd_lcm_right f s)
  have hle : q ≤ j + 1 := by
    have := Nat.le_of_dvd (Nat.mul_pos hf (Nat.succ_pos j)) d1
    rw [hq] at this
    exact Nat.le_of_mul_le_mul_left this hf
  by_cases c : q - 1 < j
  · have := h3 (q - 1) c
    rw [show q - 1 + 1 = q by omega] at this
    exact absurd sq this
  · rw [h2, hq, show q = j + 1 by omega]
theorem ok_law_common (T : Txt K mg) : FnG P w K mg base CX0 1 T.a_law_common T.d_law_common ["first", "second"] (sp_law_common K) := by
  refine okG T.F_law_common sc_law_common (fun vs H Q E h => ?_) (fun cdv A out s H vs Q E hr h => ?_)
  · obtain ⟨f, s, rfl, h0, h1, h2, q⟩ := h
    rfl
  · obtain ⟨f, s, rfl, h0, h1, h2, q⟩ := h
    refine ⟨_, (pss_cons (ps_set (i := 2) sc_law_common.nd rfl (.inl rfl) (pv 0))
    (pss_cons (ps_for PassesOwn.never rfl (pi_range1 (by rfl) T.z_range (pa_cons (pv 1) pa_nil)) (pg_name (i := 3) sc_law_common.nd rfl (.inl rfl))
      (pss_one (ps_if (pt_cmpR op_ne (pe_op op_mod (pe_callTy call_int1 (by rfl) T.z_int bt_int (pa_cons (pv 2) pa_nil)) (pv 1)) pe_int (nomark _))
        (pss_one (ps_set (i := 2) sc_law_common.nd rfl (.inl rfl) (pe_op op_add (pv 2) (pv 0))))
        pss_nil)))
    (pss_one (ps_ret (pv 2))))), ?_⟩
    refine q_asg (ev_var rfl) fun H1 e1 => ?_
    refine q_forR1 (n := (s : Int)) (ea_cons (ev_var rfl) ea_nil) (by omega) (fun k σ' H' => ∃ (y3 : Option V), σ' = [some (.int (f : Int)), some (.int (s : Int)), some (.int (mulT f s k : Int)), y3] ∧ Ex H H') ?_ ?_ ?_
    · intro H2 e2
      exact ⟨_, rfl, e1.trans e2⟩
    · rintro k σ' H' hk ⟨y3, rfl, e⟩
      have ek : mulT f s (k + 1) = if mulT f s k % s = 0 then mulT f s k else mulT f s k + f := rfl
      have em : ((mulT f s k : Nat) : Int) % (s : Int) = ((mulT f s k % s : Nat) : Int) := (Int.natCast_emod _ _).symm
      refine s_when (b := decide (¬ mulT f s k % s = 0)) (et_is (et_test (ev_op (ev_op (ev_int1 (ev_var rfl)) (ev_var rfl) (rv_I (show (0 : Int) < (s : Int) by omega))) ev_c (rv_ne rfl))) ?_) (fun hb H2 e2 => ?_) (fun hb H2 e2 => ?_)
      · rw [em]
        by_cases c : mulT f s k % s = 0
        · simp [c]
        · have : ¬ (((mulT f s k % s : Nat) : Int) = 0) := by omega
          simp only [c, this, not_false_eq_true, decide_true, decide_false, V.int.injEq, Bool.not_false]
      · have c := of_decide_eq_true hb
        rw [if_neg c] at ek
        refine s_asg (ev_op (ev_var rfl) (ev_var rfl) rv_I0) fun H3 e3 => ⟨some (.int (k : Int)), ?_, (e.trans e2).trans e3⟩
        rw [ek]
        rfl
      · have c : mulT f s k % s = 0 := Decidable.of_not_not (of_decide_eq_false hb)
        rw [if_pos c] at ek
        refine ⟨some (.int (k : Int)), ?_, e.trans e2⟩
        rw [ek]
        rfl
    · rintro σ' H' ⟨y3, rfl, e⟩
      rw [Int.toNat_natCast, mulT_lcm h0 h1]
      exact s_ret (ev_var rfl) fun H2 e2 => q H2 (e.trans e2)
/-! ### is_from_to -/
def sp_is_from_to (K : PySem.W.Frag) : Sp := fun vs H Q _ => ∃ (m lo hi : Int), vs = [.int m, .int lo, .int hi] ∧ RetV (.bl (decide (lo ≤ m) && decide (m ≤ hi))) H Q
theorem v_is_from_to {K : PySem.W.Frag} {H : Hp} {m lo hi : Int} : SpV (sp_is_from_to K) [.int m, .int lo, .int hi] H (.bl (decide (lo ≤ m) && decide (m ≤ hi))) := fun H1 e Q q E => ⟨m, lo, hi, rfl, q⟩
theorem ok_is_from_to (T : Txt K mg) : FnG P w K mg base CX0 2 T.a_is_from_to T.d_is_from_to ["value", "least", "most"] (sp_is_from_to K) := by
  refine okG T.F_is_from_to sc_is_from_to (fun vs H Q E h => ?_) (fun cdv A out s H vs Q E hr h => ?_)
  · obtain ⟨m, lo, hi, rfl, q⟩ := h
    rfl
  · obtain ⟨m, lo, hi, rfl, q⟩ := h
    refine ⟨_, (pss_one (ps_ret (pe_and (callG (ok_is_whole T) (hr.mono (by decide)) (by rfl) T.g_is_whole T.F_is_whole.kp (b_is_whole T) .nil pass0 (pa_cons (pv 0) pa_nil)) (pe_one (pe_chain op_le op_le (pv 1) (pv 0) (pv 2)))))), ?_⟩
    exact s_ret (ev_is (ev_andV (a := true) (ev_call (ea_cons (ev_var rfl) ea_nil) (v_is_whole m)) fun _ => ev_chain (ev_var rfl) (ev_var rfl) (rv_b rfl) (fun _ => ev_var rfl) fun _ => rv_b rfl) (by rw [Bool.true_and])) q
/-! ### check_row -/
def sp_check_row (K : PySem.W.Frag) : Sp := fun vs H Q _ => ∃ (a : Addr) (ns : List Int), vs = [.ref a] ∧ SqL K H a (vi ns) ∧ 0 < ns.length ∧ ns.length ≤ 4000 ∧ RetV .non H Q
theorem v_check_row {K : PySem.W.Frag} {H : Hp} {a : Addr} {ns : List Int} (h : SqL K H a (vi ns)) (h0 : 0 < ns.length) (h1 : ns.length ≤ 4000) : SpV (sp_check_row K) [.ref a] H .non := fun H1 e Q q E => ⟨a, ns, rfl, ex_l e h, h0, h1, q⟩
theorem ok_check_row (T : Txt K mg) : FnG P w K mg base CX0 2 T.a_check_row T.d_check_row ["row"] (sp_check_row K) := by
  refine okG T.F_check_row sc_check_row (fun vs H Q E h => ?_) (fun cdv A out s H vs Q E hr h => ?_)
  · obtain ⟨a, ns, rfl, hS, h0, h1, q⟩ := h
    rfl
  · obtain ⟨a, ns, rfl, hS, h0, h1, q⟩ := h
    refine ⟨_, (pss_cons (ps_if (PW.pt (pw_or (pt_not (pt_val (pe_callB (call_isiK' (K := K) rfl) (by rfl) T.z_isinstance bt_isinstance (pa_cons (pv 0) (pa_cons (pe_bltn (v := .ty "list") (by rfl) T.z_list bt_list rfl) pa_nil))))) (pw_or1 (pt_cmpR op_eq (pe_callB (call_lenK (K := K) rfl) (by rfl) T.z_len bt_len (pa_cons (pv 0) pa_nil)) pe_int (nomark _)))))
      (pss_one ps_never)
      pss_nil)
    (pss_one (ps_if (pt_not (pt_val (pe_callB (cr_allK (K := K) rfl rfl) (by rfl) T.z_all bt_all (pa_cons (pe_lc (own := [("number", 1)]) (g := gName 1) rfl sc_check_row.nd (pi_listK (K := K) rfl (pv 0)) (blkOk_by (own := [("number", 1)]) (N := ["row", "number"]) (sc := defScope s_check_row) (by decide +kernel)) (fun _ _ _ _ _ => (pg_name (i := 1) sc_check_row.nd rfl (Or.inl rfl))) (fun _ _ _ _ _ => pts_nil) (fun _ _ _ _ _ => (callG (ok_is_whole T) (hr.mono (by decide)) (by rfl) T.g_is_whole T.F_is_whole.kp (b_is_whole T) .nil pass0 (pa_cons (pv 1) pa_nil)))) pa_nil))))
      (pss_one ps_never)
      pss_nil))), ?_⟩
    refine q_when (b := false) (et_or (a := false) (b := false) (et_not (a := true) (et_B (ev_isi (ev_var rfl) (fun H1 e => ty_seql (ex_l e hS)) kb_list_list))) fun _ => et_is (et_test (ev_op (ev_len (ev_var rfl) hS) ev_c (rv_eq rfl))) ?_) (fun h => nomatch h) (fun _ H1 e1 => ?_)
    · exact decide_eq_false fun z => by
        have z' : ((vi ns).length : Int) = 0 := V.int.inj z
        rw [List.length_map] at z'
        omega
    refine s_when (b := false) (et_not (a := true) (et_B (ev_is (ev_allN (bs := List.replicate ns.length true) (el_is (el_lcL (fun _ => true) (fun _ => V.bl true) (ev_var rfl) (ex_l e1 hS) (by rw [List.length_map]; omega) (fun _ => rfl) (fun _ _ _ _ _ => et_yes) ?_) ?_)) ?_))) (fun h => nomatch h) fun _ H2 e2 => q H2 (e1.trans e2)
    · intro i x H2 e2 hx _
      obtain ⟨m, rfl, hm, hg⟩ := vi_inv hx
      exact ev_call (ea_cons (ev_var rfl) ea_nil) (v_is_whole m)
    · rw [given_all, List.length_map, List.map_replicate]
      refine List.ext_getElem? fun i => ?_
      rw [List.getElem?_map, List.getElem?_replicate]
      by_cases hi : i < ns.length
      · rw [List.getElem?_range hi, if_pos hi]
        rfl
      · rw [List.getElem?_eq_none (by rw [List.length_range]; omega), if_neg hi]
        rfl
    · rw [show (List.replicate ns.length true).all id = true by simp]
/-! ### check_shuffle -/
def sp_check_shuffle (K : PySem.W.Frag) : Sp := fun vs H Q _ => ∃ (a : Addr) (ns : List Int), vs = [.ref a] ∧ SqT K H a (vi ns) ∧ Shf ns ∧ RetV .non H Q
theorem v_check_shuffle {K : PySem.W.Frag} {H : Hp} {a : Addr} {ns : List Int} (h : SqT K H a (vi ns)) (s : Shf ns) : SpV (sp_check_shuffle K) [.ref a] H .non := fun H1 e Q q E => ⟨a, ns, rfl, ex_t e h, s, q⟩
theorem ok_check_shuffle (T : Txt K mg) : FnG P w K mg base CX0 2 T.a_check_shuffle T.d_check_shuffle ["shuffle"] (sp_check_shuffle K) := by
  refine okG T.F_check_shuffle sc_check_shuffle (fun vs H Q E h => ?_) (fun cdv A out s H vs Q E hr h => ?_)
  · obtain ⟨a, ns, rfl, hS, sh, q⟩ := h
    rfl
  · obtain ⟨a, ns, rfl, hS, sh, q⟩ := h
    refine ⟨_, (pss_cons (ps_if (PW.pt (pw_or (pt_not (pt_val (pe_callB (call_isiK' (K := K) rfl) (by rfl) T.z_isinstance bt_isinstance (pa_cons (pv 0) (pa_cons (pe_bltn (v := .ty "tuple") (by rfl) T.z_tuple bt_tuple rfl) pa_nil))))) (pw_or1 (pt_not (pt_chain op_le op_le pe_int (pe_callB (call_lenK (K := K) rfl) (by rfl) T.z_len bt_len (pa_cons (pv 0) pa_nil)) (pe_glob (v := .int 300) rfl T.c_MOST_THINGS ⟨_, rfl⟩))))))
      (pss_one ps_never)
      pss_nil)
    (pss_cons (ps_if (pt_not (pt_val (pe_callB (cr_allK (K := K) rfl rfl) (by rfl) T.z_all bt_all (pa_cons (pe_lc (own := [("place", 1)]) (g := gName 1) rfl sc_check_shuffle.nd (pi_tupK (K := K) rfl (pv 0)) (blkOk_by (own := [("place", 1)]) (N := ["shuffle", "place"]) (sc := defScope s_check_shuffle) (by decide +kernel)) (fun _ _ _ _ _ => (pg_name (i := 1) sc_check_shuffle.nd rfl (Or.inl rfl))) (fun _ _ _ _ _ => pts_nil) (fun _ _ _ _ _ => (callG (ok_is_whole T) (hr.mono (by decide)) (by rfl) T.g_is_whole T.F_is_whole.kp (b_is_whole T) .nil pass0 (pa_cons (pv 1) pa_nil)))) pa_nil))))
      (pss_one ps_never)
      pss_nil)
    (pss_one (ps_if (pt_cmpR (op_neDK (K := K) rfl hr.rm.units) (pe_callB cr_sortedTup (by rfl) T.z_sorted bt_sorted (pa_cons (pv 0) pa_nil)) (pe_listRg rfl (by rfl) T.z_list (prg_1 (by rfl) T.z_range (pe_callB (call_lenK (K := K) rfl) (by rfl) T.z_len bt_len (pa_cons (pv 0) pa_nil)))) (nomark _))
      (pss_one ps_never)
      pss_nil)))), ?_⟩
    have hl : ((vi ns).length : Int) = (ns.length : Int) := by rw [List.length_map]
    have hs := sh
    obtain ⟨s0, s1, s2⟩ := sh
    refine q_when (b := false) (et_or (a := false) (b := false) (et_not (a := true) (et_B (ev_isi (ev_var rfl) (fun H1 e => ty_seqt (ex_t e hS)) kb_tuple_tuple))) fun _ => et_not (a := true) (et_test (ev_chain (a := true) (b := true) ev_c (ev_lenT (ev_var rfl) hS) (rv_b (decide_eq_true (by omega))) (fun _ => ev_c) fun _ => rv_b (decide_eq_true (by omega))))) (fun h => nomatch h) fun _ H1 e1 => ?_
    refine q_when (b := false) (et_not (a := true) (et_B (ev_is (ev_allN (bs := List.replicate ns.length true) (el_is (el_lcT (fun _ => true) (fun _ => V.bl true) (ev_var rfl) (ex_t e1 hS) (by rw [List.length_map]; omega) (fun _ => rfl) (fun _ _ _ _ _ => et_yes) ?_) ?_)) ?_))) (fun h => nomatch h) fun _ H2 e2 => ?_
    · intro i x H2 e2 hx _
      obtain ⟨m, rfl, hm, hg⟩ := vi_inv hx
      exact ev_call (ea_cons (ev_var rfl) ea_nil) (v_is_whole m)
    · rw [given_all, List.length_map, List.map_replicate]
      refine List.ext_getElem? fun i => ?_
      rw [List.getElem?_map, List.getElem?_replicate]
      by_cases hi : i < ns.length
      · rw [List.getElem?_range hi, if_pos hi]
        rfl
      · rw [List.getElem?_eq_none (by rw [List.length_range]; omega), if_neg hi]
        rfl
    · rw [show (List.replicate ns.length true).all id = true by simp]
    refine s_when (b := false) (et_is (et_test (ev_neLL (el_sortedT (ev_var rfl) (ex_t (e1.trans e2) hS) s2 (iota_sorted _)) (el_is (el_rg1 (ev_is (ev_lenT (ev_var rfl) (ex_t (e1.trans e2) hS)) (by rw [hl])) (by omega) (by omega)) (rgV_iota _)))) (by simp)) (fun h => nomatch h) fun _ H3 e3 => ?_
    exact q H3 ((e1.trans e2).trans e3)
/-! ### _law_mixed -/
def sp_law_mixed (K : PySem.W.Frag) : Sp := fun vs H Q _ => ∃ (a : Addr) (n m : Nat), vs = [.ref a, .int (m : Int)] ∧ Well H a n ∧ m ≤ 300 ∧ n + 300 ≤ 2 ^ 50 ∧ ∀ p ns H2, H p = none → But a H H2 → Well H2 a (n + 300) → H2 p = some (.lst (vi ns)) → ns.Perm (iota m) → Q (.ref p) H2
theorem wl_law_mixed {K : PySem.W.Frag} {E : XK} {σ : L2.St} {H : Hp} {a : Addr} {i : Nat} {te : TE} {m : Nat} (hσ : σ[i]? = some (some (.ref a))) (h : Ev te σ (hid a H) (.int (m : Int))) (hm : m ≤ 300) :
    EvWL a 300 (tCall (sp_law_mixed K) [] E (tCons (tVar i) (tCons te tNil))) σ H (fun xs => ∃ ns, xs = vi ns ∧ ns.Perm (iota m)) :=
  fun n H1 b w l Q q => ⟨.ref a, hσ, h H1 (ex_hid b) _ fun H2 e2 => ⟨a, n, m, rfl, w.ex e2, hm, l, fun p ns H3 hp b3 w3 h3 ok => q p (vi ns) H3 (fresh_back e2 hp) ((But.ex e2).trans b3) w3 h3 ⟨ns, rfl, ok⟩⟩⟩
theorem ok_law_mixed (T : Txt K mg) : FnG P w K mg base CX0 2 T.a_law_mixed T.d_law_mixed ["well", "size"] (sp_law_mixed K) := by
  refine okG T.F_law_mixed sc_law_mixed (fun vs H Q E h => ?_) (fun cdv A out s H vs Q E hr h => ?_)
  · obtain ⟨a, n, m, rfl, hw, hm, hn, q⟩ := h
    rfl
  · obtain ⟨a, n, m, rfl, hw, hm, hn, q⟩ := h
    refine ⟨_, (pss_cons (ps_par (i := 2) (j := 3) (by rfl) sc_law_mixed.nd rfl rfl (by decide) rfl rfl (pa_cons (pe_listRg rfl (by rfl) T.z_list (prg_1 (by rfl) T.z_range (pv 1))) (pa_cons (pe_lst pa_nil) pa_nil)) (by rfl))
    (pss_cons (ps_for PassesOwn.never rfl (pi_range1 (by rfl) T.z_range (pa_cons (pv 1) pa_nil)) (pg_name (i := 4) sc_law_mixed.nd rfl (.inl rfl))
      (pss_one (ps_expr (pe_bm PySem.F.plainAttrs_list PySem.F.slot_list_append PySem.F.type_list_append mt_append (pv 3) (pa_cons (pe_bm PySem.F.plainAttrs_list PySem.F.slot_list_pop PySem.F.type_list_pop mt_popAt (pv 2) (pa_cons (callG (ok_law_draw T) (hr.mono (by decide)) (by rfl) T.g_law_draw T.F_law_draw.kp (b_law_draw T) .nil pass0 (pa_cons (pv 0) (pa_cons (pe_callB (call_lenK (K := K) rfl) (by rfl) T.z_len bt_len (pa_cons (pv 2) pa_nil)) pa_nil))) pa_nil)) pa_nil)))))
    (pss_one (ps_ret (pv 3))))), ?_⟩
    refine q_parLL (el_is (el_rg1 (ev_var rfl) (by omega) (by omega)) (rgV_iota m)) (fun p H1 _ _ _ => el_lst ea_nil (Nat.zero_le _)) fun p1 p2 H1 f1 f2 ne e1 h1 h2 => ?_
    have n1 : p1 ≠ a := hw.ne f1
    have n2 : p2 ≠ a := hw.ne f2
    refine q_forR1 (n := (m : Int)) (ea_cons (ev_var rfl) ea_nil) (by omega) (fun i σ' H' => ∃ ps fs y4, σ' = [some (.ref a), some (.int (m : Int)), some (.ref p1), some (.ref p2), y4] ∧ But a H H' ∧ Well H' a (n + i) ∧ H' p1 = some (.lst (vi ps)) ∧ H' p2 = some (.lst (vi fs)) ∧ ps.length + i = m ∧ fs.length = i ∧ (fs ++ ps).Perm (iota m)) ?_ ?_ ?_
    · intro H2 e2
      exact ⟨iota m, [], _, rfl, But.ex (e1.trans e2), hw.ex (e1.trans e2), e2 _ _ h1, e2 _ _ h2, by rw [iota_length]; rfl, rfl, List.Perm.refl _⟩
    · rintro i σ' H' hi ⟨ps, fs, y4, rfl, b, w, g1, g2, l1, l2, pm⟩
      refine ⟨.ref p2, rfl, .inl ⟨rfl, _, sq_of g2⟩, .ref p1, rfl, .inl ⟨rfl, _, sq_of g1⟩, ?_⟩
      have hl : ((vi ps).length : Int) = (ps.length : Int) := by rw [List.length_map]
      have g1' : SqL K (hid a H') p1 (vi ps) := sq_of (by rw [hid_ne n1]; exact g1)
      refine (ew_drawC (m := (ps.length : Int)) rfl (ev_is (ev_len (ev_var rfl) g1') (by rw [hl])) (by omega) (lt8000 (by omega))) _ H' (But.refl a H') w (by omega) _ ?_
      rintro v H2 b2 w2 ⟨r, rfl, r0, r1⟩
      obtain ⟨k, rfl⟩ : ∃ k : Nat, r = k := ⟨r.toNat, by omega⟩
      have hk : k < ps.length := by omega
      have c1 := b2 _ _ n1 g1
      have c2 := b2 _ _ n2 g2
      refine ⟨p1, vi ps, k, k, .int ps[k], rfl, rfl, c1, by omega, by omega, (ixN_seq (ixN_nat (by rw [List.length_map]; exact hk))).1, vi_at hk, ?_⟩
      refine ⟨p2, vi fs, _, rfl, rfl, by rw [upd_ne (Ne.symm ne)]; exact c2, sz_lt (by rw [List.length_map]; omega), ?_⟩
      refine ⟨ps.eraseIdx k, fs ++ [ps[k]], _, rfl, ((b.trans b2).own f1).own f2, ?_, ?_, ?_, ?_, ?_, ?_⟩
      · obtain ⟨x, y, c, q1, q2⟩ := w2
        exact ⟨x, y, c, by rw [upd_ne (Ne.symm n2), upd_ne (Ne.symm n1)]; exact q1, q2⟩
      · rw [upd_ne ne, upd_same, vi_erase]
      · rw [upd_same]
        show some (HO.lst (vi fs ++ vi [ps[k]])) = _
        rw [vi_app]
      · rw [List.length_eraseIdx_of_lt hk]
        omega
      · rw [List.length_append, l2]
        rfl
      · refine List.Perm.trans ?_ pm
        rw [List.append_assoc]
        exact List.Perm.append_left fs (erase_perm hk)
    · rintro σ' H' ⟨ps, fs, y4, rfl, b, w, g1, g2, l1, l2, pm⟩
      have e0 : ps = [] := List.length_eq_zero_iff.mp (by omega)
      subst e0
      rw [List.append_nil] at pm
      refine s_ret (ev_var rfl) fun H3 e3 => ?_
      exact q p2 fs H3 f2 (b.trans (But.ex e3)) ((w.ex e3).mono (by omega)) (e3 _ _ g2) pm
/-! ### _law_ringed -/
def sp_law_ringed (K : PySem.W.Frag) : Sp := fun vs H Q _ => ∃ (a b : Addr) (n : Nat) (longest : Int) (pl : List Int), vs = [.ref a, .ref b, .int longest] ∧ Well H a n ∧ b ≠ a ∧ SqL K H b (vi pl) ∧ Shf pl ∧ 1 ≤ longest ∧ longest ≤ 400 ∧ n + 300 ≤ 2 ^ 50 ∧
  ∀ p ns H2, H p = none → But a H H2 → Well H2 a (n + 300) → H2 p = some (.tup (vi ns)) → Shf ns → ns.length = pl.length → Q (.ref p) H2
theorem ok_law_ringed (T : Txt K mg) : FnG P w K mg base CX0 2 T.a_law_ringed T.d_law_ringed ["well", "places", "longest"] (sp_law_ringed K) := by
  refine okG T.F_law_ringed sc_law_ringed (fun vs H Q E h => ?_) (fun cdv A out s H vs Q E hr h => ?_)
  · obtain ⟨a, b, n, longest, pl, rfl, hw, nb, hP, sh, lo0, lo1, hn, q⟩ := h
    rfl
  · obtain ⟨a, b, n, longest, pl, rfl, hw, nb, hP, sh, lo0, lo1, hn, q⟩ := h
    refine ⟨_, (pss_cons (ps_par (i := 3) (j := 4) (by rfl) sc_law_ringed.nd rfl rfl (by decide) rfl rfl (pa_cons (pe_op op_rep (pe_lst (pa_cons pe_int pa_nil)) (pe_callB (call_lenK (K := K) rfl) (by rfl) T.z_len bt_len (pa_cons (pv 1) pa_nil))) (pa_cons pe_int pa_nil)) (by rfl))
    (pss_cons (ps_for PassesOwn.never rfl (pi_range1 (by rfl) T.z_range (pa_cons (pe_callB (call_lenK (K := K) rfl) (by rfl) T.z_len bt_len (pa_cons (pv 1) pa_nil)) pa_nil)) (pg_name (i := 5) sc_law_ringed.nd rfl (.inl rfl))
      (pss_one (ps_if (pt_cmpR op_lt (pv 4) (pe_callB (call_lenK (K := K) rfl) (by rfl) T.z_len bt_len (pa_cons (pv 1) pa_nil)) (nomark _))
        (pss_cons (ps_set (i := 6) sc_law_ringed.nd rfl (.inl rfl) (pe_callB (call_min2 rfl) (by rfl) T.z_min bt_min (pa_cons (pe_op op_sub (pe_callB (call_lenK (K := K) rfl) (by rfl) T.z_len bt_len (pa_cons (pv 1) pa_nil)) (pv 4)) (pa_cons (pe_op op_add pe_int (callG (ok_law_draw T) (hr.mono (by decide)) (by rfl) T.g_law_draw T.F_law_draw.kp (b_law_draw T) .nil pass0 (pa_cons (pv 0) (pa_cons (pv 2) pa_nil)))) pa_nil))))
        (pss_cons (ps_set (i := 7) sc_law_ringed.nd rfl (.inl rfl) (pe_slice (sl_listK (K := K) rfl) (pv 1) (po_some (pv 4)) (po_some (pe_op op_add (pv 4) (pv 6)))))
        (pss_cons (ps_for PassesOwn.never rfl (pi_range1 (by rfl) T.z_range (pa_cons (pv 6) pa_nil)) (pg_name (i := 8) sc_law_ringed.nd rfl (.inl rfl))
          (pss_one (ps_asg (pe_ix (ix_listK (K := K) rfl) (pv 7) (pe_op op_mod (pe_callTy call_int1 (by rfl) T.z_int bt_int (pa_cons (pe_op op_add (pv 8) pe_int) pa_nil)) (pv 6)) (fun _ _ => rfl)) (pg_sub (pv 3) (pe_ix (ix_listK (K := K) rfl) (pv 7) (pv 8) (fun _ _ => rfl)) set_list))))
        (pss_one (ps_set (i := 4) sc_law_ringed.nd rfl (.inl rfl) (pe_op op_add (pv 4) (pv 6)))))))
        pss_nil)))
    (pss_one (ps_ret (pe_callTy (call_tupleK (K := K) rfl) (by rfl) T.z_tuple bt_tuple (pa_cons (pv 3) pa_nil)))))), ?_⟩
    have hl : ((vi pl).length : Int) = (pl.length : Int) := by rw [List.length_map]
    have hs := sh
    obtain ⟨s0, s1, s2⟩ := sh
    refine q_parLV (el_is (el_rep (n := (pl.length : Int)) (el_lst (ea_cons ev_c ea_nil) (by show 1 ≤ 100000; decide)) (fun H1 e1 => ev_is (ev_len (ev_var rfl) (ex_l e1 hP)) (by rw [hl])) (by omega) (by show 1 * _ ≤ _; omega) (by omega)) (flat_rep _ _)) (fun _ _ _ _ _ => ev_c) fun p H1 fp e1 h1 => ?_
    have np : p ≠ a := hw.ne fp
    rw [Int.toNat_natCast] at h1
    refine q_forR1 (n := (pl.length : Int)) (ea_cons (ev_is (ev_len (ev_var rfl) (ex_l e1 hP)) (by rw [hl])) ea_nil) (by omega) (fun i σ' H' => ∃ (F : List Int) (t : Nat) (y5 y6 y7 y8 : Option V), σ' = [some (.ref a), some (.ref b), some (.int longest), some (.ref p), some (.int (t : Int)), y5, y6, y7, y8] ∧ But a H H' ∧ Well H' a (n + i) ∧ H' p = some (.lst (vi F)) ∧ t ≤ pl.length ∧ (i ≤ t ∨ t = pl.length) ∧ RingInv pl F t) ?_ ?_ ?_
    · intro H2 e2
      exact ⟨List.replicate pl.length 0, 0, _, _, _, _, rfl, But.ex (e1.trans e2), hw.ex (e1.trans e2), e2 _ _ h1, Nat.zero_le _, .inl (Nat.le_refl _), List.length_replicate, List.Perm.refl _⟩
    · rintro i σ' H' hi ⟨F, t, y5, y6, y7, y8, rfl, bt, w, g, ht, hit, inv⟩
      have hP' : SqL K H' b (vi pl) := bt.seq nb hP
      by_cases hlt : t < pl.length
      · refine s_when (b := true) (et_test (ev_op (ev_var rfl) (ev_len (ev_var rfl) hP') (rv_b (decide_eq_true (by omega))))) (fun _ H2 e2 => ?_) (fun h => nomatch h)
        have hP2 : SqL K (hid a H2) b (vi pl) := by
          have := (bt.trans (But.ex e2)).seq nb hP
          rcases this with (h | ⟨o, h⟩) | h
          · exact .inl (.inl (by rw [hid_ne nb]; exact h))
          · exact .inl (.inr ⟨o, by rw [hid_ne nb]; exact h⟩)
          · exact .inr h
        refine qw_asg (ew_min2 (P := fun r => 1 ≤ r ∧ r ≤ (pl.length : Int) - t) (ew_pure (P := fun v => ∃ r, v = .int r ∧ r = (pl.length : Int) - t) (ev_op (ev_len (ev_var rfl) hP2) (ev_var rfl) rv_I0) ⟨_, rfl, by rw [hl]⟩)
          (ew_add (P := fun r => 1 ≤ r) (ew_c (P := fun r => r = 1) rfl) (ew_drawC (m := longest) rfl (ev_var rfl) (by omega) (lt8000 (by omega))) (fun x y hx hy => by omega)) (fun x y hx hy => by split <;> omega)) (w.ex e2) (by omega) ?_
        rintro v H3 b3 w3 ⟨r, rfl, r0, r1⟩
        obtain ⟨len, rfl⟩ : ∃ k : Nat, r = k := ⟨r.toNat, by omega⟩
        have hP3 : SqL K H3 b (vi pl) := ((bt.trans (But.ex e2)).trans b3).seq nb hP
        have g3 := b3 _ _ np (e2 _ _ g)
        refine q_asgL (el_sl (ev_var rfl) (eo_some (ev_var rfl)) (eo_some (ev_op (ev_var rfl) (ev_var rfl) rv_I0)) hP3) fun pr H4 fr e4 h4 => ?_
        rw [cut_mid (by rw [List.length_map]; omega)] at h4
        have gr : ∀ j, j < len → ((vi pl).drop t |>.take len)[j]? = some (.int (pl.getD (t + j) 0)) := fun j hj => by
          rw [List.getElem?_take_of_lt hj, List.getElem?_drop, vi_at (show t + j < pl.length by omega), List.getD_eq_getElem?_getD, List.getElem?_eq_getElem (show t + j < pl.length by omega)]
          rfl
        have nr : pr ≠ a := w3.ne fr
        have npr : p ≠ pr := ne_of_none g3 fr
        refine q_forR1 (n := (len : Int)) (ea_cons (ev_var rfl) ea_nil) (by omega) (fun j σ' H' => ∃ (F' : List Int) (y8 : Option V), σ' = [some (.ref a), some (.ref b), some (.int longest), some (.ref p), some (.int (t : Int)), some (.int (i : Int)), some (.int (len : Int)), some (.ref pr), y8] ∧ But a H H' ∧ Well H' a (n + (i + 1)) ∧ H' p = some (.lst (vi F')) ∧ H' pr = some (.lst ((vi pl).drop t |>.take len)) ∧ F'.length = pl.length ∧
          (∀ q ∈ pl.take t, look F' q = look F q) ∧ ∀ j', j' < j → look F' (pl.getD (t + j') 0) = pl.getD (t + (j' + 1) % len) 0) ?_ ?_ ?_
        · intro H5 e5
          exact ⟨F, _, rfl, ((bt.trans (But.ex e2)).trans b3).trans (But.ex (e4.trans e5)), (w3.ex (e4.trans e5)).mono (by omega), e5 _ _ (e4 _ _ g3), e5 _ _ h4, inv.1, fun _ _ => rfl, fun j' h => absurd h (Nat.not_lt_zero _)⟩
        · rintro j σ'' H'' hj ⟨F', z8, rfl, bt', w', g', gr', fl, old, neu⟩
          have hj' : j < len := by omega
          have hm : (j + 1) % len < len := Nat.mod_lt _ (by omega)
          obtain ⟨k, k1, k2, k3⟩ := Shf.get hs (show t + j < pl.length by omega)
          have ea : atI ((vi pl).drop t |>.take len) ((j : Int) + 1 - 0) = atI ((vi pl).drop t |>.take len) ((j : Int) + 1) := by rw [Int.sub_zero]
          have em : ((j : Int) + 1) % (len : Int) = (((j + 1) % len : Nat) : Int) := by
            rw [Int.natCast_emod]
            rfl
          refine s_setL (j := k) g' (ev_op (ev_var rfl) (ev_op (ev_int1 (ev_op (ev_var rfl) ev_c rv_I0)) (ev_var rfl) (rv_I (show (0 : Int) < (len : Int) by omega))) (rv_ixL (sq_of gr') (by rw [em]; exact atI_nat (gr _ hm)))) (ev_var rfl) (ev_op (ev_var rfl) (ev_var rfl) (rv_ixL (sq_of gr') (by rw [← k2]; exact atI_nat (gr _ hj')))) (by rw [List.length_map]; omega) fun H5 e5 => ?_
          refine ⟨F'.set k (pl.getD (t + (j + 1) % len) 0), _, rfl, (bt'.trans (But.ex e5)).own fp, ?_, ?_, ?_, by rw [List.length_set]; exact fl, ?_, ?_⟩
          · obtain ⟨x, y, c, q1, q2⟩ := w'.ex e5
            exact ⟨x, y, c, by rw [upd_ne (Ne.symm np)]; exact q1, q2⟩
          · rw [upd_same, vi_set]
          · rw [upd_ne (Ne.symm npr)]
            exact e5 _ _ gr'
          · intro q hq
            obtain ⟨i', hi', rfl⟩ := List.getElem_of_mem hq
            rw [List.length_take] at hi'
            have hq' := Shf.mem hs (List.mem_of_mem_take hq)
            rw [look_set_ne hq'.1, old _ hq]
            intro z
            rw [List.getElem_take] at z
            have : i' = t + j := Shf.inj hs (by omega) (by omega) (by
              rw [k2, ← z, List.getD_eq_getElem?_getD, List.getElem?_eq_getElem (show i' < pl.length by omega)]
              rfl)
            omega
          · intro j' hj2
            by_cases e : j' = j
            · subst e
              rw [k2, look_set_same (by omega)]
            · obtain ⟨k', k1', k2', k3'⟩ := Shf.get hs (show t + j' < pl.length by omega)
              rw [look_set_ne (by rw [k2']; omega), neu j' (by omega)]
              intro z
              have : t + j' = t + j := Shf.inj hs (by omega) (by omega) (by rw [z, k2])
              omega
        · rintro σ'' H'' ⟨F', z8, rfl, bt', w', g', gr', fl, old, neu⟩
          refine s_asg (ev_is (ev_op (ev_var rfl) (ev_var rfl) rv_I0) (by rw [show (t : Int) + (len : Int) = ((t + len : Nat) : Int) by omega])) fun H6 e6 => ?_
          refine ⟨F', t + len, _, _, _, _, rfl, bt'.trans (But.ex e6), w'.ex e6, e6 _ _ g', by omega, ?_, ring_step inv (by omega) (by omega) fl old fun j' h => neu j' (by omega)⟩
          rcases hit with h | h
          · left
            omega
          · omega
      · refine s_when (b := false) (et_test (ev_op (ev_var rfl) (ev_len (ev_var rfl) hP') (rv_b (decide_eq_false (by omega))))) (fun h => nomatch h) (fun _ H2 e2 => ?_)
        exact ⟨F, t, _, _, _, _, rfl, bt.trans (But.ex e2), (w.ex e2).mono (by omega), e2 _ _ g, ht, .inr (by omega), inv⟩
    · rintro σ' H' ⟨F, t, y5, y6, y7, y8, rfl, bt, w, g, ht, hit, inv⟩
      have et : t = pl.length := by omega
      subst et
      refine s_retU (eu_tupOf (ev_var rfl) (sq_of g)) fun r H5 hr e5 h5 => ?_
      exact q r F H5 (but_free bt w hr) (bt.trans (But.ex e5)) ((w.ex e5).mono (by omega)) h5 (ring_end hs inv) inv.1
/-! ### check_many -/
def sp_check_many (K : PySem.W.Frag) : Sp := fun vs H Q _ => ∃ (m : Int), vs = [.int m] ∧ 1 ≤ m ∧ m ≤ 300 ∧ RetV .non H Q
theorem v_check_many {K : PySem.W.Frag} {H : Hp} {m : Int} (h1 : 1 ≤ m) (h2 : m ≤ 300) : SpV (sp_check_many K) [.int m] H .non := fun H1 e Q q E => ⟨m, rfl, h1, h2, q⟩
theorem ok_check_many (T : Txt K mg) : FnG P w K mg base CX0 3 T.a_check_many T.d_check_many ["many"] (sp_check_many K) := by
  refine okG T.F_check_many sc_check_many (fun vs H Q E h => ?_) (fun cdv A out s H vs Q E hr h => ?_)
  · obtain ⟨m, rfl, m0, m1, q⟩ := h
    rfl
  · obtain ⟨m, rfl, m0, m1, q⟩ := h
    refine ⟨_, (pss_one (ps_if (pt_not (pt_val (callG (ok_is_from_to T) (hr.mono (by decide)) (by rfl) T.g_is_from_to T.F_is_from_to.kp (b_is_from_to T) .nil pass0 (pa_cons (pv 0) (pa_cons pe_int (pa_cons (pe_glob (v := .int 300) rfl T.c_MOST_NUMBERS ⟨_, rfl⟩) pa_nil))))))
      (pss_one ps_never)
      pss_nil)), ?_⟩
    refine s_when (b := false) (et_not (a := true) (et_test (ev_is (ev_call (ea_cons (ev_var rfl) (ea_cons ev_c (ea_cons ev_c ea_nil))) v_is_from_to) (by rw [decide_eq_true m0, decide_eq_true m1]; rfl)))) (fun h => nomatch h) fun _ H1 e1 => q H1 e1
/-! ### lengths -/
def sp_lengths (K : PySem.W.Frag) : Sp := fun vs H Q _ => ∃ (a : Addr) (ds : List Int), vs = [.ref a] ∧ SqT K H a (vi ds) ∧ Shf ds ∧ (Rings ds (ringsL ds ds.length) ds.length → RetL (vi (lensL ds)) H Q)
theorem l_lengths {K : PySem.W.Frag} {H : Hp} {a : Addr} {ds : List Int} (h : SqT K H a (vi ds)) (s : Shf ds) : SpL (sp_lengths K) [.ref a] H (vi (lensL ds)) :=
  fun H1 e Q q E => ⟨a, ds, rfl, ex_t e h, s, fun _ => q⟩
theorem ok_lengths (T : Txt K mg) : FnG P w K mg base CX0 3 T.a_lengths T.d_lengths ["shuffle"] (sp_lengths K) := by
  refine okG T.F_lengths sc_lengths (fun vs H Q E h => ?_) (fun cdv A out s H vs Q E hr h => ?_)
  · obtain ⟨a, ds, rfl, hA, hs, q⟩ := h
    rfl
  · obtain ⟨a, ds, rfl, hA, hs, q⟩ := h
    refine ⟨_, (pss_cons (ps_expr (callG (ok_check_shuffle T) (hr.mono (by decide)) (by rfl) T.g_check_shuffle T.F_check_shuffle.kp (b_check_shuffle T) .nil pass0 (pa_cons (pv 0) pa_nil)))
    (pss_one (ps_ret (pe_callB cr_sortedI (by rfl) T.z_sorted bt_sorted (pa_cons (pe_lc (own := [("ring", 1)]) (g := gName 1) rfl sc_lengths.nd (pi_listK (K := K) rfl (callG (ok_rings_in T) (hr.mono (by decide)) (by rfl) T.g_rings_in T.F_rings_in.kp (b_rings_in T) .nil pass0 (pa_cons (pv 0) pa_nil))) (blkOk_by (own := [("ring", 1)]) (N := ["shuffle", "ring"]) (sc := defScope s_lengths) (by decide +kernel)) (fun _ _ _ _ _ => (pg_name (i := 1) sc_lengths.nd rfl (Or.inl rfl))) (fun _ _ _ _ _ => pts_nil) (fun _ _ _ _ _ => (pe_callB (call_lenK (K := K) rfl) (by rfl) T.z_len bt_len (pa_cons (pv 1) pa_nil)))) pa_nil))))), ?_⟩
    have h3 := hs.2.1
    have rg := rings_of hs
    refine q_drop (ev_call (ea_cons (ev_var rfl) ea_nil) (v_check_shuffle hA hs)) fun H1 e1 => ?_
    have hrl := rings_length rg
    refine s_retL (el_sortedN (el_is (el_lcN (R := ringsL ds ds.length) (fun _ => true) (fun i => V.int ((((ringsL ds ds.length).getD i []).length : Nat) : Int)) (en_call (ea_cons (ev_var rfl) ea_nil) (n_rings_in (ex_t e1 hA) hs)) (by omega) (fun _ => rfl) (fun _ _ _ _ _ _ _ => et_yes) ?_) ?_) (lens_perm ds) (lens_sorted ds)) fun p H2 hp e2 h2 => q rg p H2 (fresh_back e1 hp) (e1.trans e2) h2
    · intro i b r H2 e2 hr hb _
      rw [List.getD_eq_getElem?_getD, hr]
      exact ev_is (ev_len (ev_var rfl) (sq_of hb)) (by rw [List.length_map, up_length]; rfl)
    · rw [given_ints]
      unfold up
      rw [List.map_map]
      refine congrArg vi (List.ext_getElem? fun i => ?_)
      rw [List.getElem?_map, List.getElem?_map]
      by_cases hi : i < (ringsL ds ds.length).length
      · rw [List.getElem?_range hi, List.getElem?_eq_getElem hi]
        show some ((((ringsL ds ds.length).getD i []).length : Nat) : Int) = _
        rw [List.getD_eq_getElem?_getD, List.getElem?_eq_getElem hi]
        rfl
      · rw [List.getElem?_eq_none (by rw [List.length_range]; omega), List.getElem?_eq_none (by omega)]
        rfl
/-! ### turned -/
def sp_turned (K : PySem.W.Frag) : Sp := fun vs H Q _ => ∃ (a : Addr) (ds : List Int) (t : Int), vs = [.ref a, .int t] ∧ SqT K H a (vi ds) ∧ Shf ds ∧ RetU (vi (turnL ds t)) H Q
theorem u_turned {K : PySem.W.Frag} {H : Hp} {a : Addr} {ds : List Int} {t : Int} (h : SqT K H a (vi ds)) (s : Shf ds) : SpU (sp_turned K) [.ref a, .int t] H (vi (turnL ds t)) :=
  fun H1 e Q q E => ⟨a, ds, t, rfl, ex_t e h, s, q⟩
theorem ok_turned (T : Txt K mg) : FnG P w K mg base CX0 3 T.a_turned T.d_turned ["shuffle", "times"] (sp_turned K) := by
  refine okG T.F_turned sc_turned (fun vs H Q E h => ?_) (fun cdv A out s H vs Q E hr h => ?_)
  · obtain ⟨a, ds, t, rfl, hA, hs, q⟩ := h
    rfl
  · obtain ⟨a, ds, t, rfl, hA, hs, q⟩ := h
    refine ⟨_, (pss_cons (ps_expr (callG (ok_check_shuffle T) (hr.mono (by decide)) (by rfl) T.g_check_shuffle T.F_check_shuffle.kp (b_check_shuffle T) .nil pass0 (pa_cons (pv 0) pa_nil)))
    (pss_cons (ps_if (pt_not (pt_val (callG (ok_is_whole T) (hr.mono (by decide)) (by rfl) T.g_is_whole T.F_is_whole.kp (b_is_whole T) .nil pass0 (pa_cons (pv 1) pa_nil))))
      (pss_one ps_never)
      pss_nil)
    (pss_cons (ps_set (i := 2) sc_turned.nd rfl (.inl rfl) (pe_op op_rep (pe_lst (pa_cons pe_int pa_nil)) (pe_callB (call_lenK (K := K) rfl) (by rfl) T.z_len bt_len (pa_cons (pv 0) pa_nil))))
    (pss_cons (ps_for PassesOwn.never rfl (pi_listK (K := K) rfl (callG (ok_rings_in T) (hr.mono (by decide)) (by rfl) T.g_rings_in T.F_rings_in.kp (b_rings_in T) .nil pass0 (pa_cons (pv 0) pa_nil))) (pg_name (i := 3) sc_turned.nd rfl (.inl rfl))
      (pss_one (ps_for PassesOwn.never rfl (pi_enum (by rfl) T.z_enumerate (pa_cons (pv 3) pa_nil)) (pg_tup rfl (pgs_cons (pg_name (i := 4) sc_turned.nd rfl (.inl rfl)) (pgs_cons (pg_name (i := 5) sc_turned.nd rfl (.inl rfl)) pgs_nil)))
        (pss_one (ps_asg (pe_ix (ix_listK (K := K) rfl) (pv 3) (pe_op op_mod (pe_op op_add (pv 4) (pv 1)) (pe_callB (call_lenK (K := K) rfl) (by rfl) T.z_len bt_len (pa_cons (pv 3) pa_nil))) (fun _ _ => rfl)) (pg_sub (pv 2) (pv 5) set_list))))))
    (pss_one (ps_ret (pe_callTy (call_tupleK (K := K) rfl) (by rfl) T.z_tuple bt_tuple (pa_cons (pv 2) pa_nil)))))))), ?_⟩
    have h3 := hs.2.1
    have rg := rings_of hs
    have hl : ((vi ds).length : Int) = (ds.length : Int) := by rw [List.length_map]
    refine q_drop (ev_call (ea_cons (ev_var rfl) ea_nil) (v_check_shuffle hA hs)) fun H0 e0 => ?_
    refine q_when (b := false) (et_not (a := true) (et_test (ev_call (ea_cons (ev_var rfl) ea_nil) (v_is_whole t)))) (fun h => nomatch h) fun _ H1 e1 => ?_
    have hA1 := ex_t (e0.trans e1) hA
    refine q_asgL (xs := vi (List.replicate ds.length 0)) (el_is (el_rep (n := (ds.length : Int)) (el_lst (ea_cons ev_c ea_nil) (by show 1 ≤ 100000; decide)) (fun H1 e2 => ev_is (ev_lenT (ev_var rfl) (ex_t e2 hA1)) (by rw [hl])) (by omega) (by show 1 * _ ≤ _; omega) (by omega)) (by rw [Int.toNat_natCast]; exact flat_rep _ _)) fun pf H2 f2 e2 h2 => ?_
    have fp : H pf = none := fresh_back (e0.trans e1) f2
    refine q_forN (R := ringsL ds ds.length) (en_call (ea_cons (ev_var rfl) ea_nil) (n_rings_in (ex_t e2 hA1) hs)) (fun p qs i σ' H' => ∃ (F : List Int) (y3 y4 y5 : Option V), σ' = [some (.ref a), some (.int t), some (.ref pf), y3, y4, y5] ∧ Ex H H' ∧ H' p = some (.lst (qs.map .ref)) ∧ Nest H' qs (ringsL ds ds.length) ∧ H' pf = some (.lst (vi F)) ∧ F.length = ds.length ∧ p ≠ pf ∧ (∀ q ∈ qs, q ≠ pf) ∧ ∀ k ∈ ((ringsL ds ds.length).take i).flatten, F.getD k 0 = (tn ds t k : Int)) ?_ ?_ ?_ ?_
    · intro p qs H3 f3 e3 g3 nq fq
      refine ⟨List.replicate ds.length 0, _, _, _, rfl, ((e0.trans e1).trans e2).trans e3, g3, nq, e3 _ _ h2, List.length_replicate, ne_of_none' f3 h2, fun q hq => ne_of_none' (fq q hq) h2, fun k hk => ?_⟩
      exact nomatch hk
    · rintro p qs i σ' H' hi ⟨F, y3, y4, y5, rfl, e, gp, nq, gf, fl, np, nqf, inv⟩
      exact ⟨gp, nq⟩
    · rintro p qs i b r σ' H' hr hb hbq ⟨F, y3, y4, y5, rfl, e, gp, nq, gf, fl, np, nqf, inv⟩
      have ir := rg.ring r (List.mem_of_getElem? hr)
      have lr : ((vi (up r)).length : Int) = (r.length : Int) := by rw [List.length_map, up_length]
      have nb := nqf b hbq
      refine s_forEn (ev_var rfl) (sq_of hb) (fun j σ' H' => ∃ (F : List Int) (y4 y5 : Option V), σ' = [some (.ref a), some (.int t), some (.ref pf), some (.ref b), y4, y5] ∧ Ex H H' ∧ H' p = some (.lst (qs.map .ref)) ∧ Nest H' qs (ringsL ds ds.length) ∧ H' b = some (.lst (vi (up r))) ∧ H' pf = some (.lst (vi F)) ∧ F.length = ds.length ∧ (∀ k ∈ ((ringsL ds ds.length).take i).flatten, F.getD k 0 = (tn ds t k : Int)) ∧ ∀ j', j' < j → F.getD (r.getD j' 0) 0 = (tn ds t (r.getD j' 0) : Int)) ?_ ?_ ?_ ?_
      · intro H3 e3
        exact ⟨F, _, _, rfl, e.trans e3, e3 _ _ gp, nq.ex e3, e3 _ _ hb, e3 _ _ gf, fl, inv, fun j' h => absurd h (Nat.not_lt_zero _)⟩
      · rintro j σ'' H'' hj ⟨F, y4, y5, rfl, e', gp', nq', gb', gf', fl', inv', new'⟩
        exact sq_of gb'
      · rintro j x σ'' H'' hx ⟨F, y4, y5, rfl, e', gp', nq', gb', gf', fl', inv', new'⟩ H3 e3
        have hj : j < r.length := by
          have := (List.getElem?_eq_some_iff.mp hx).1
          rw [List.length_map, up_length] at this
          exact this
        rw [up_at hj] at hx
        cases hx
        have hk : r.getD j 0 < ds.length := ir.lt _ (by rw [getD_of hj]; exact List.getElem_mem hj)
        have hp := ir.pos
        have m0 := Int.emod_nonneg ((j : Int) + t) (show (r.length : Int) ≠ 0 by omega)
        have m1 : ((j : Int) + t) % (r.length : Int) < r.length := Int.emod_lt_of_pos _ (by omega)
        refine s_setL (j := r.getD j 0) (e3 _ _ gf') (ev_op (ev_var rfl) (ev_op (ev_op (ev_var rfl) (ev_var rfl) rv_I0) (ev_is (ev_len (ev_var rfl) (sq_of (e3 _ _ gb'))) (by rw [lr])) (rv_I (show (0 : Int) < (r.length : Int) by omega))) (rv_ixL (v := .int (tn ds t (r.getD j 0) : Int)) (sq_of (e3 _ _ gb')) (by
          rw [← tn_ring ir t hj, show ((j : Int) + t) % (r.length : Int) = (((((j : Int) + t) % (r.length : Int)).toNat : Nat) : Int) by omega]
          exact atI_nat (up_at (by omega))))) (ev_var rfl) (ev_var rfl) (by rw [List.length_map, fl']; exact hk) fun H4 e4 => ?_
        rw [vi_set]
        refine ⟨F.set (r.getD j 0) (tn ds t (r.getD j 0)), _, _, rfl, ((e'.trans e3).trans e4).mut fp, ?_, ?_, ?_, upd_same, by rw [List.length_set]; exact fl', ?_, ?_⟩
        · rw [upd_ne np]
          exact e4 _ _ (e3 _ _ gp')
        · exact ((nq'.ex e3).ex e4).upd nqf
        · rw [upd_ne nb]
          exact e4 _ _ (e3 _ _ gb')
        · intro k hk'
          rw [set_getD (by rw [fl']; exact hk)]
          split
          · rename_i c
            rw [c]
          · exact inv' k hk'
        · intro j' hj2
          rw [set_getD (by rw [fl']; exact hk)]
          split
          · rename_i c
            rw [c]
          · rename_i c
            refine new' j' ?_
            by_cases e5 : j' = j
            · rw [e5] at c
              exact absurd rfl c
            · omega
      · rintro σ'' H'' ⟨F, y4, y5, rfl, e', gp', nq', gb', gf', fl', inv', new'⟩
        refine ⟨F, _, _, _, rfl, e', gp', nq', gf', fl', np, nqf, fun k hk => ?_⟩
        rw [take_flat hr] at hk
        rcases List.mem_append.mp hk with hk | hk
        · exact inv' k hk
        · obtain ⟨j, hj, rfl⟩ := IsRing.mem (ds := ds) hk
          exact new' j (by rw [List.length_map, up_length]; exact hj)
    · rintro p qs σ' H' ⟨F, y3, y4, y5, rfl, e, gp, nq, gf, fl, np, nqf, inv⟩
      have eF : F = turnL ds t := turn_end' fl fun i hi => inv i (by rw [List.take_of_length_le (Nat.le_refl _)]; exact rg.all i hi)
      subst eF
      exact s_retU (eu_tupOf (ev_var rfl) (sq_of gf)) fun r H5 hr e5 h5 => q r H5 (fresh_back e hr) (e.trans e5) h5
/-! ### beside -/
def sp_beside (K : PySem.W.Frag) : Sp := fun vs H Q _ => ∃ (a b : Addr) (xs ys : List Int), vs = [.ref a, .ref b] ∧ SqT K H a (vi xs) ∧ SqT K H b (vi ys) ∧ Shf xs ∧ Shf ys ∧ xs.length + ys.length ≤ 300 ∧ RetU (vi (besL xs ys)) H Q
theorem u_beside {K : PySem.W.Frag} {H : Hp} {a b : Addr} {xs ys : List Int} (ha : SqT K H a (vi xs)) (hb : SqT K H b (vi ys)) (hx : Shf xs) (hy : Shf ys) (h : xs.length + ys.length ≤ 300) : SpU (sp_beside K) [.ref a, .ref b] H (vi (besL xs ys)) :=
  fun H1 e Q q E => ⟨a, b, xs, ys, rfl, ex_t e ha, ex_t e hb, hx, hy, h, q⟩
theorem ok_beside (T : Txt K mg) : FnG P w K mg base CX0 3 T.a_beside T.d_beside ["one", "two"] (sp_beside K) := by
  refine okG T.F_beside sc_beside (fun vs H Q E h => ?_) (fun cdv A out s H vs Q E hr h => ?_)
  · obtain ⟨a, b, xs, ys, rfl, hA, hB, hx, hy, hm, q⟩ := h
    rfl
  · obtain ⟨a, b, xs, ys, rfl, hA, hB, hx, hy, hm, q⟩ := h
    refine ⟨_, (pss_cons (ps_expr (callG (ok_check_shuffle T) (hr.mono (by decide)) (by rfl) T.g_check_shuffle T.F_check_shuffle.kp (b_check_shuffle T) .nil pass0 (pa_cons (pv 0) pa_nil)))
    (pss_cons (ps_expr (callG (ok_check_shuffle T) (hr.mono (by decide)) (by rfl) T.g_check_shuffle T.F_check_shuffle.kp (b_check_shuffle T) .nil pass0 (pa_cons (pv 1) pa_nil)))
    (pss_cons (ps_expr (callG (ok_check_things T) (hr.mono (by decide)) (by rfl) T.g_check_things T.F_check_things.kp (b_check_things T) .nil pass0 (pa_cons (pe_op op_add (pe_callB (call_lenK (K := K) rfl) (by rfl) T.z_len bt_len (pa_cons (pv 0) pa_nil)) (pe_callB (call_lenK (K := K) rfl) (by rfl) T.z_len bt_len (pa_cons (pv 1) pa_nil))) pa_nil)))
    (pss_one (ps_ret (pe_op (op_catTK (K := K) rfl) (pv 0) (pe_callTy (call_tupleK (K := K) rfl) (by rfl) T.z_tuple bt_tuple (pa_cons (pe_lc (own := [("place", 2)]) (g := gName 2) rfl sc_beside.nd (pi_tupK (K := K) rfl (pv 1)) (blkOk_by (own := [("place", 2)]) (N := ["one", "two", "place"]) (sc := defScope s_beside) (by decide +kernel)) (fun _ _ _ _ _ => (pg_name (i := 2) sc_beside.nd rfl (Or.inl rfl))) (fun _ _ _ _ _ => pts_nil) (fun _ _ _ _ _ => (pe_op op_add (pe_callB (call_lenK (K := K) rfl) (by rfl) T.z_len bt_len (pa_cons (pv 0) pa_nil)) (pv 2)))) pa_nil)))))))), ?_⟩
    have lx : ((vi xs).length : Int) = (xs.length : Int) := by rw [List.length_map]
    have ly : ((vi ys).length : Int) = (ys.length : Int) := by rw [List.length_map]
    have x0 := hx.1
    have y0 := hy.1

    refine q_drop (ev_call (ea_cons (ev_var rfl) ea_nil) (v_check_shuffle hA hx)) fun H1 e1 => ?_
    refine q_drop (ev_call (ea_cons (ev_var rfl) ea_nil) (v_check_shuffle (ex_t e1 hB) hy)) fun H2 e2 => ?_
    have hA2 := ex_t (e1.trans e2) hA
    have hB2 := ex_t (e1.trans e2) hB
    refine q_drop (ev_call (ea_cons (ev_op (ev_is (ev_lenT (ev_var rfl) hA2) (by rw [lx])) (ev_is (ev_lenT (ev_var rfl) hB2) (by rw [ly])) rv_I0) ea_nil) (v_check_things (by omega) (by omega))) fun H3 e3 => ?_
    have hA3 := ex_t e3 hA2
    have hB3 := ex_t e3 hB2
    refine s_retU (xs := vi (besL xs ys)) (eu_is (eu_catT (xs := vi xs) (ys := vi (ys.map fun y => (xs.length : Int) + y)) (ev_var rfl) (eu_tupOfN (el_is (el_lcT (fun _ => true) (fun i => V.int ((xs.length : Int) + ys.getD i 0)) (ev_var rfl) hB3 (by rw [List.length_map]; have := hy.2.1; omega) (fun _ => rfl) (fun _ _ _ _ _ => et_yes) ?_) (given_map ys _))) hA3 (vi_ne x0) (vi_ne (by rw [List.length_map]; exact y0)) (by rw [List.length_map, List.length_map, List.length_map]; omega)) ?_) fun r H4 hr e4 h4 => ?_
    · intro i x H4 e4 gx _
      obtain ⟨x', rfl, _, ex⟩ := vi_inv gx
      rw [ex]
      exact ev_op (ev_is (ev_lenT (ev_var rfl) (ex_t e4 hA3)) (by rw [lx])) (ev_var rfl) rv_I0
    · rw [vi_app]
      rfl
    · exact q r H4 (fresh_back ((e1.trans e2).trans e3) hr) (((e1.trans e2).trans e3).trans e4) h4
/-! ### paired -/
def sp_paired (K : PySem.W.Frag) : Sp := fun vs H Q _ => ∃ (a b : Addr) (xs ys : List Int), vs = [.ref a, .ref b] ∧ SqT K H a (vi xs) ∧ SqT K H b (vi ys) ∧ Shf xs ∧ Shf ys ∧ xs.length * ys.length ≤ 300 ∧ RetU (vi (pairL xs ys)) H Q
theorem u_paired {K : PySem.W.Frag} {H : Hp} {a b : Addr} {xs ys : List Int} (ha : SqT K H a (vi xs)) (hb : SqT K H b (vi ys)) (hx : Shf xs) (hy : Shf ys) (h : xs.length * ys.length ≤ 300) : SpU (sp_paired K) [.ref a, .ref b] H (vi (pairL xs ys)) :=
  fun H1 e Q q E => ⟨a, b, xs, ys, rfl, ex_t e ha, ex_t e hb, hx, hy, h, q⟩
theorem ok_paired (T : Txt K mg) : FnG P w K mg base CX0 3 T.a_paired T.d_paired ["one", "two"] (sp_paired K) := by
  refine okG T.F_paired sc_paired (fun vs H Q E h => ?_) (fun cdv A out s H vs Q E hr h => ?_)
  · obtain ⟨a, b, xs, ys, rfl, hA, hB, hx, hy, hm, q⟩ := h
    rfl
  · obtain ⟨a, b, xs, ys, rfl, hA, hB, hx, hy, hm, q⟩ := h
    refine ⟨_, (pss_cons (ps_expr (callG (ok_check_shuffle T) (hr.mono (by decide)) (by rfl) T.g_check_shuffle T.F_check_shuffle.kp (b_check_shuffle T) .nil pass0 (pa_cons (pv 0) pa_nil)))
    (pss_cons (ps_expr (callG (ok_check_shuffle T) (hr.mono (by decide)) (by rfl) T.g_check_shuffle T.F_check_shuffle.kp (b_check_shuffle T) .nil pass0 (pa_cons (pv 1) pa_nil)))
    (pss_cons (ps_expr (callG (ok_check_things T) (hr.mono (by decide)) (by rfl) T.g_check_things T.F_check_things.kp (b_check_things T) .nil pass0 (pa_cons (pe_op op_mul (pe_callB (call_lenK (K := K) rfl) (by rfl) T.z_len bt_len (pa_cons (pv 0) pa_nil)) (pe_callB (call_lenK (K := K) rfl) (by rfl) T.z_len bt_len (pa_cons (pv 1) pa_nil))) pa_nil)))
    (pss_one (ps_ret (pe_callTy (call_tupleK (K := K) rfl) (by rfl) T.z_tuple bt_tuple (pa_cons (pe_lc2 (own := [("left", 2), ("right", 3)]) (vs1 := [3]) (g := gName 2) (g1 := gName 3) rfl sc_paired.nd (pi_tupK (K := K) rfl (pv 0)) (blkOk_by (own := [("left", 2), ("right", 3)]) (N := ["one", "two", "left", "right"]) (sc := defScope s_paired) (by decide +kernel)) (by decide) (fun _ _ _ _ _ => (pg_name (i := 2) sc_paired.nd rfl (Or.inl rfl))) (fun _ _ _ _ _ => pts_nil) (fun _ _ _ _ _ => (pi_tupK (K := K) rfl (pv 1))) (fun _ _ _ _ _ => (pg_name (i := 3) sc_paired.nd rfl (Or.inl rfl))) (fun _ _ _ _ _ => pts_nil) (fun _ _ _ _ _ => (pe_op op_add (pe_op op_mul (pv 2) (pe_callB (call_lenK (K := K) rfl) (by rfl) T.z_len bt_len (pa_cons (pv 1) pa_nil))) (pv 3)))) pa_nil))))))), ?_⟩
    have lx : ((vi xs).length : Int) = (xs.length : Int) := by rw [List.length_map]
    have ly : ((vi ys).length : Int) = (ys.length : Int) := by rw [List.length_map]
    have x0 := hx.1
    have y0 := hy.1
    have hx3 := hx.2.1
    have hy3 := hy.2.1
    have p0 : 0 < xs.length * ys.length := Nat.mul_pos x0 y0
    refine q_drop (ev_call (ea_cons (ev_var rfl) ea_nil) (v_check_shuffle hA hx)) fun H1 e1 => ?_
    refine q_drop (ev_call (ea_cons (ev_var rfl) ea_nil) (v_check_shuffle (ex_t e1 hB) hy)) fun H2 e2 => ?_
    have hA2 := ex_t (e1.trans e2) hA
    have hB2 := ex_t (e1.trans e2) hB
    refine q_drop (ev_call (ea_cons (ev_op (ev_is (ev_lenT (ev_var rfl) hA2) (by rw [lx])) (ev_is (ev_lenT (ev_var rfl) hB2) (by rw [ly])) (rv_I (cml (by omega)))) ea_nil) (v_check_things (by rw [← Int.natCast_mul]; omega) (by rw [← Int.natCast_mul]; omega))) fun H3 e3 => ?_
    have hA3 := ex_t e3 hA2
    have hB3 := ex_t e3 hB2
    refine s_retU (xs := vi (pairL xs ys)) (eu_tupOfN (el_is (el_lc2T (fun i j => V.int (xs.getD i 0 * (ys.length : Int) + ys.getD j 0)) (ev_var rfl) hA3 hB3 (fun _ _ _ => ev_var rfl) (by rw [List.length_map, List.length_map]; omega) (fun _ => rfl) (fun _ _ => rfl) ?_) ?_)) fun r H4 hr e4 h4 => ?_
    · intro n m x y H4 e4 gx gy
      obtain ⟨x', rfl, _, ex⟩ := vi_inv gx
      obtain ⟨y', rfl, _, ey⟩ := vi_inv gy
      have bx := Shf.getD_lt hx n
      rw [ex, ey]
      rw [ex] at bx
      exact ev_op (ev_op (ev_var rfl) (ev_is (ev_lenT (ev_var rfl) (ex_t e4 hB3)) (by rw [ly])) (rv_I (cml (by omega)))) (ev_var rfl) rv_I0
    · rw [List.length_map, List.length_map, flat2_div _ _ y0]
      unfold pairL vi
      rw [List.map_map]
      rfl
    · exact q r H4 (fresh_back ((e1.trans e2).trans e3) hr) (((e1.trans e2).trans e3).trans e4) h4
/-! ### new_numbers -/
def sp_new_numbers (K : PySem.W.Frag) : Sp := fun vs H Q _ => ∃ (a : Addr) (r : List Int), vs = [.ref a] ∧ SqL K H a (vi r) ∧ 0 < r.length ∧ r.length ≤ 4000 ∧ RetL (vi (newL r)) H Q
theorem l_new_numbers {K : PySem.W.Frag} {H : Hp} {a : Addr} {r : List Int} (h : SqL K H a (vi r)) (h0 : 0 < r.length) (h1 : r.length ≤ 4000) : SpL (sp_new_numbers K) [.ref a] H (vi (newL r)) := fun H1 e Q q E => ⟨a, r, rfl, ex_l e h, h0, h1, q⟩
theorem ok_new_numbers (T : Txt K mg) : FnG P w K mg base CX0 3 T.a_new_numbers T.d_new_numbers ["row"] (sp_new_numbers K) := by
  refine okG T.F_new_numbers sc_new_numbers (fun vs H Q E h => ?_) (fun cdv A out s H vs Q E hr h => ?_)
  · obtain ⟨a, r, rfl, hS, h0, h1, q⟩ := h
    rfl
  · obtain ⟨a, r, rfl, hS, h0, h1, q⟩ := h
    refine ⟨_, (pss_cons (ps_expr (callG (ok_check_row T) (hr.mono (by decide)) (by rfl) T.g_check_row T.F_check_row.kp (b_check_row T) .nil pass0 (pa_cons (pv 0) pa_nil)))
    (pss_cons (ps_set (i := 1) sc_new_numbers.nd rfl (.inl rfl) (pe_callB (call_lenK (K := K) rfl) (by rfl) T.z_len bt_len (pa_cons (pv 0) pa_nil)))
    (pss_cons (ps_set (i := 2) sc_new_numbers.nd rfl (.inl rfl) (pe_callTy (call_listK (K := K) rfl) (by rfl) T.z_list bt_list (pa_cons (pv 0) pa_nil)))
    (pss_cons (ps_for PassesOwn.never rfl (pi_range2 (by rfl) T.z_range (pa_cons pe_int (pa_cons (pe_op op_add (pv 1) pe_int) pa_nil))) (pg_name (i := 3) sc_new_numbers.nd rfl (.inl rfl))
      (pss_one (ps_for PassesOwn.never rfl (pi_range3 (by rfl) T.z_range (pa_cons (pe_op op_mul pe_int (pv 3)) (pa_cons (pe_op op_add (pv 1) pe_int) (pa_cons (pv 3) pa_nil)))) (pg_name (i := 4) sc_new_numbers.nd rfl (.inl rfl))
        (pss_one (ps_augS (pv 2) (pe_op op_sub (pv 4) pe_int) pget_list (pe_ix (ix_listK (K := K) rfl) (pv 2) (pe_op op_sub (pv 3) pe_int) (fun _ _ => rfl)) ip_sub set_list)))))
    (pss_one (ps_ret (pv 2))))))), ?_⟩
    refine q_drop (ev_call (ea_cons (ev_var rfl) ea_nil) (v_check_row hS h0 h1)) fun H1 e1 => ?_
    refine q_asg (v := .int (r.length : Int)) (ev_is (ev_len (ev_var rfl) (ex_l e1 hS)) (by rw [List.length_map])) fun H2 e2 => ?_
    refine q_asgL (el_list (ev_var rfl) (ex_l (e1.trans e2) hS)) fun pn H3 f3 e3 h3 => ?_
    have fp : H pn = none := fresh_back (e1.trans e2) f3
    refine q_forR2 (lo := 1) (n := (r.length : Int) + 1) (ea_cons ev_c (ea_cons (ev_op (ev_var rfl) ev_c rv_I0) ea_nil)) (by omega)
      (fun k σ' H' => ∃ (y3 y4 : Option V), σ' = [some (.ref a), some (.int (r.length : Int)), some (.ref pn), y3, y4] ∧ Ex H H' ∧ H' pn = some (.lst (vi (tabL r.length (sub r k))))) ?_ ?_ ?_
    · intro H4 e4
      refine ⟨_, _, rfl, ((e1.trans e2).trans e3).trans e4, ?_⟩
      have e5 : tabL r.length (sub r 0) = r := tab_self r
      rw [e5]
      exact e4 _ _ h3
    · rintro k σ' H' hk ⟨y3, y4, rfl, e, g⟩
      have hk' : k < r.length := by omega
      have e1k : (1 : Int) + (k : Int) = ((k + 1 : Nat) : Int) := by omega
      rw [e1k]
      refine s_forR3G (lo := 2 * ((k + 1 : Nat) : Int)) (j := (r.length : Int) + 1) (c := ((k + 1 : Nat) : Int)) (ea_cons (ev_op ev_c (ev_var rfl) (rv_I (cml (by decide)))) (ea_cons (ev_op (ev_var rfl) ev_c rv_I0) (ea_cons (ev_var rfl) ea_nil))) (by omega) (by omega) (by omega) (by omega) (by omega) (by omega)
        (fun t σ' H' => ∃ (y4 : Option V), σ' = [some (.ref a), some (.int (r.length : Int)), some (.ref pn), some (.int ((k + 1 : Nat) : Int)), y4] ∧ Ex H H' ∧ H' pn = some (.lst (vi (tabL r.length fun i => sub r k i - (if k < i ∧ (i + 1) % (k + 1) = 0 ∧ (i + 1) / (k + 1) ≤ t + 1 then sub r k k else 0))))) ?_ ?_ ?_
      · intro H4 e4
        refine ⟨_, rfl, e.trans e4, ?_⟩
        rw [e4 _ _ g]
        congr 3
        refine tab_congr fun i hi => ?_
        rw [if_neg]
        · omega
        · rintro ⟨h1, h2, h3⟩
          have e := Nat.div_add_mod (i + 1) (k + 1)
          rw [h2] at e
          have : (k + 1) * ((i + 1) / (k + 1)) ≤ (k + 1) * 1 := Nat.mul_le_mul_left _ (by omega)
          omega
      · rintro t σ'' H'' ht ⟨y4, rfl, e', g'⟩
        have ej : 2 * ((k + 1 : Nat) : Int) + (t : Int) * ((k + 1 : Nat) : Int) = (((k + 1) * (t + 1 + 1) : Nat) : Int) := by
          rw [Int.natCast_mul, ← Int.add_mul, Int.mul_comm]
          congr 1
          omega
        rw [ej] at ht ⊢
        have hpos : 0 < (k + 1) * (t + 1 + 1) := Nat.mul_pos (Nat.succ_pos k) (Nat.succ_pos _)
        have hge : (k + 1) * 2 ≤ (k + 1) * (t + 1 + 1) := Nat.mul_le_mul_left _ (by omega)
        obtain ⟨m1, m2⟩ := mul_mod (n := k + 1) (t := t + 1) (Nat.succ_pos k)
        generalize hj : (k + 1) * (t + 1 + 1) = M at *
        refine s_augL (j := M - 1) (f := fun i j => i - j) (a := sub r k (M - 1)) (b := sub r k k) (ev_var rfl) (ev_is (ev_op (ev_var rfl) ev_c rv_I0) (by congr 1; omega)) g' (by
          rw [tab_at (by omega), if_neg]
          · rw [Int.sub_zero]
          · rintro ⟨_, _, z⟩
            omega) (ev_op (ev_var rfl) (ev_is (ev_op (ev_var rfl) ev_c rv_I0) (by show V.int (((k + 1 : Nat) : Int) - 1) = .int ((k : Nat) : Int); congr 1; omega)) (rv_ixL (sq_of g') (atI_nat (by
            rw [tab_at hk', if_neg (fun z => Nat.lt_irrefl _ z.1), Int.sub_zero])))) fun H4 e4 => ?_
        refine ⟨_, rfl, (e'.trans e4).mut fp, ?_⟩
        rw [upd_same, vi_set, tab_set (by omega)]
        congr 3
        refine tab_congr fun i hi => ?_
        by_cases c : i = M - 1
        · rw [if_pos c, c, if_pos ⟨by omega, m1, by omega⟩]
        · rw [if_neg c]
          by_cases d : k < i ∧ (i + 1) % (k + 1) = 0
          · have hx := mul_ix (n := k + 1) (t := t + 1) (Nat.succ_pos k) d.2
            rw [hj] at hx
            by_cases d2 : (i + 1) / (k + 1) ≤ t + 1
            · rw [if_pos ⟨d.1, d.2, d2⟩, if_pos ⟨d.1, d.2, by omega⟩]
            · rw [if_neg fun z => d2 z.2.2, if_neg fun z => (hx.mp z.2.2).elim d2 fun z => by omega]
          · rw [if_neg fun z => d ⟨z.1, z.2.1⟩, if_neg fun z => d ⟨z.1, z.2.1⟩]
      · rintro t σ'' H'' ht ⟨y4, rfl, e', g'⟩
        refine ⟨_, _, rfl, e', ?_⟩
        rw [g']
        congr 3
        refine tab_congr fun i hi => ?_
        show _ = sub r k i - (if k < i ∧ (i + 1) % (k + 1) = 0 then sub r k k else 0)
        by_cases d : k < i ∧ (i + 1) % (k + 1) = 0
        · have ej : 2 * ((k + 1 : Nat) : Int) + (t : Int) * ((k + 1 : Nat) : Int) = (((t + 1 + 1) * (k + 1) : Nat) : Int) := by
            rw [Int.natCast_mul, ← Int.add_mul]
            congr 1
            omega
          rw [ej] at ht
          have hlt : i + 1 < (t + 1 + 1) * (k + 1) := by
            generalize (t + 1 + 1) * (k + 1) = M at ht ⊢
            omega
          have hle : (i + 1) / (k + 1) < t + 1 + 1 := (Nat.div_lt_iff_lt_mul (Nat.succ_pos k)).mpr hlt
          rw [if_pos d, if_pos ⟨d.1, d.2, Nat.le_of_lt_succ hle⟩]
        · rw [if_neg d, if_neg fun z => d ⟨z.1, z.2.1⟩]
    · rintro σ' H' ⟨y3, y4, rfl, e, g⟩
      rw [show ((r.length : Int) + 1 - 1).toNat = r.length by omega] at g
      exact s_ret (ev_var rfl) fun H4 e4 => q pn H4 fp (e.trans e4) (e4 _ _ g)
/-! ### added -/
def sp_added (K : PySem.W.Frag) : Sp := fun vs H Q _ => ∃ (a b : Addr) (xs ys : List Int), vs = [.ref a, .ref b] ∧ SqL K H a (vi xs) ∧ SqL K H b (vi ys) ∧ 0 < xs.length ∧ xs.length ≤ 4000 ∧ 0 < ys.length ∧ ys.length ≤ 4000 ∧ RetL (vi (addL xs ys)) H Q
theorem l_added {K : PySem.W.Frag} {H : Hp} {a b : Addr} {xs ys : List Int} (ha : SqL K H a (vi xs)) (hb : SqL K H b (vi ys)) (h0 : 0 < xs.length) (h1 : xs.length ≤ 4000) (h2 : 0 < ys.length) (h3 : ys.length ≤ 4000) : SpL (sp_added K) [.ref a, .ref b] H (vi (addL xs ys)) := fun H1 e Q q E => ⟨a, b, xs, ys, rfl, ex_l e ha, ex_l e hb, h0, h1, h2, h3, q⟩
theorem ok_added (T : Txt K mg) : FnG P w K mg base CX0 3 T.a_added T.d_added ["one", "two"] (sp_added K) := by
  refine okG T.F_added sc_added (fun vs H Q E h => ?_) (fun cdv A out s H vs Q E hr h => ?_)
  · obtain ⟨a, b, xs, ys, rfl, hA, hB, h0, h1, h2, h3, q⟩ := h
    rfl
  · obtain ⟨a, b, xs, ys, rfl, hA, hB, h0, h1, h2, h3, q⟩ := h
    refine ⟨_, (pss_cons (ps_expr (callG (ok_check_row T) (hr.mono (by decide)) (by rfl) T.g_check_row T.F_check_row.kp (b_check_row T) .nil pass0 (pa_cons (pv 0) pa_nil)))
    (pss_cons (ps_expr (callG (ok_check_row T) (hr.mono (by decide)) (by rfl) T.g_check_row T.F_check_row.kp (b_check_row T) .nil pass0 (pa_cons (pv 1) pa_nil)))
    (pss_one (ps_ret (pe_lc (own := [("left", 2), ("right", 3)]) (g := g2 K 2 3) rfl sc_added.nd (pi_zip (by rfl) T.z_zip (pa_cons (pv 0) (pa_cons (pv 1) pa_nil))) (blkOk_by (own := [("left", 2), ("right", 3)]) (N := ["one", "two", "left", "right"]) (sc := defScope s_added) (by decide +kernel)) (fun _ _ _ _ _ => (pg_tup rfl (pgs_cons (pg_name (i := 2) sc_added.nd rfl (Or.inl rfl)) (pgs_cons (pg_name (i := 3) sc_added.nd rfl (Or.inl rfl)) pgs_nil)))) (fun _ _ _ _ _ => pts_nil) (fun _ _ _ _ _ => (pe_op op_add (pv 2) (pv 3)))))))), ?_⟩
    refine q_drop (ev_call (ea_cons (ev_var rfl) ea_nil) (v_check_row hA h0 h1)) fun H1 e1 => ?_
    refine q_drop (ev_call (ea_cons (ev_var rfl) ea_nil) (v_check_row (ex_l e1 hB) h2 h3)) fun H2 e2 => ?_
    have ee := e1.trans e2
    refine s_retL (el_is (el_lcZ (fun i => V.int (xs.getD i 0 + ys.getD i 0)) (ev_var rfl) (ev_var rfl) (ex_l ee hA) (ex_l ee hB) (by rw [List.length_map]; omega) (fun _ _ => rfl) ?_) ?_) fun p H3 hp e3 h3 => q p H3 (fresh_back ee hp) (ee.trans e3) h3
    · intro i x y H3 e3 hx hy
      obtain ⟨x', rfl, _, ex⟩ := vi_inv hx
      obtain ⟨y', rfl, _, ey⟩ := vi_inv hy
      rw [ex, ey]
      exact ev_op (ev_var rfl) (ev_var rfl) rv_I0
    · rw [List.length_map, List.length_map]
      exact given_tab _ _
/-! ### multiplied -/
def mulL (xs ys : List Int) : List Int := tabL (min xs.length ys.length) fun i => xs.getD i 0 * ys.getD i 0
def sp_multiplied (K : PySem.W.Frag) : Sp := fun vs H Q _ => ∃ (a b : Addr) (xs ys : List Int), vs = [.ref a, .ref b] ∧ SqL K H a (vi xs) ∧ SqL K H b (vi ys) ∧ 0 < xs.length ∧ xs.length ≤ 4000 ∧ 0 < ys.length ∧ ys.length ≤ 4000 ∧ (∀ i, CMul (xs.getD i 0) (ys.getD i 0)) ∧ RetL (vi (mulL xs ys)) H Q
theorem l_multiplied {K : PySem.W.Frag} {H : Hp} {a b : Addr} {xs ys : List Int} (ha : SqL K H a (vi xs)) (hb : SqL K H b (vi ys)) (h0 : 0 < xs.length) (h1 : xs.length ≤ 4000) (h2 : 0 < ys.length) (h3 : ys.length ≤ 4000) (hc : ∀ i, CMul (xs.getD i 0) (ys.getD i 0)) : SpL (sp_multiplied K) [.ref a, .ref b] H (vi (mulL xs ys)) := fun H1 e Q q E => ⟨a, b, xs, ys, rfl, ex_l e ha, ex_l e hb, h0, h1, h2, h3, hc, q⟩
theorem ok_multiplied (T : Txt K mg) : FnG P w K mg base CX0 3 T.a_multiplied T.d_multiplied ["one", "two"] (sp_multiplied K) := by
  refine okG T.F_multiplied sc_multiplied (fun vs H Q E h => ?_) (fun cdv A out s H vs Q E hr h => ?_)
  · obtain ⟨a, b, xs, ys, rfl, hA, hB, h0, h1, h2, h3, hc, q⟩ := h
    rfl
  · obtain ⟨a, b, xs, ys, rfl, hA, hB, h0, h1, h2, h3, hc, q⟩ := h
    refine ⟨_, (pss_cons (ps_expr (callG (ok_check_row T) (hr.mono (by decide)) (by rfl) T.g_check_row T.F_check_row.kp (b_check_row T) .nil pass0 (pa_cons (pv 0) pa_nil)))
    (pss_cons (ps_expr (callG (ok_check_row T) (hr.mono (by decide)) (by rfl) T.g_check_row T.F_check_row.kp (b_check_row T) .nil pass0 (pa_cons (pv 1) pa_nil)))
    (pss_one (ps_ret (pe_lc (own := [("left", 2), ("right", 3)]) (g := g2 K 2 3) rfl sc_multiplied.nd (pi_zip (by rfl) T.z_zip (pa_cons (pv 0) (pa_cons (pv 1) pa_nil))) (blkOk_by (own := [("left", 2), ("right", 3)]) (N := ["one", "two", "left", "right"]) (sc := defScope s_multiplied) (by decide +kernel)) (fun _ _ _ _ _ => (pg_tup rfl (pgs_cons (pg_name (i := 2) sc_multiplied.nd rfl (Or.inl rfl)) (pgs_cons (pg_name (i := 3) sc_multiplied.nd rfl (Or.inl rfl)) pgs_nil)))) (fun _ _ _ _ _ => pts_nil) (fun _ _ _ _ _ => (pe_op op_mul (pv 2) (pv 3)))))))), ?_⟩
    refine q_drop (ev_call (ea_cons (ev_var rfl) ea_nil) (v_check_row hA h0 h1)) fun H1 e1 => ?_
    refine q_drop (ev_call (ea_cons (ev_var rfl) ea_nil) (v_check_row (ex_l e1 hB) h2 h3)) fun H2 e2 => ?_
    have ee := e1.trans e2
    refine s_retL (el_is (el_lcZ (fun i => V.int (xs.getD i 0 * ys.getD i 0)) (ev_var rfl) (ev_var rfl) (ex_l ee hA) (ex_l ee hB) (by rw [List.length_map]; omega) (fun _ _ => rfl) ?_) ?_) fun p H3 hp e3 h3 => q p H3 (fresh_back ee hp) (ee.trans e3) h3
    · intro i x y H3 e3 hx hy
      obtain ⟨x', rfl, _, ex⟩ := vi_inv hx
      obtain ⟨y', rfl, _, ey⟩ := vi_inv hy
      have hci := hc i
      rw [ex, ey] at hci
      rw [ex, ey]
      exact ev_op (ev_var rfl) (ev_var rfl) (rv_I hci)
    · rw [List.length_map, List.length_map]
      exact given_tab _ _
/-! ### each -/
def eachL (r : List Int) (c : Nat) : List Int := tabL (r.length / c) fun i => r.getD ((i + 1) * c - 1) 0
def sp_each (K : PySem.W.Frag) : Sp := fun vs H Q _ => ∃ (a : Addr) (r : List Int) (c : Nat), vs = [.ref a, .int (c : Int)] ∧ SqL K H a (vi r) ∧ 0 < r.length ∧ r.length ≤ 4000 ∧ 1 ≤ c ∧ c ≤ r.length ∧ RetL (vi (eachL r c)) H Q
theorem l_each {K : PySem.W.Frag} {H : Hp} {a : Addr} {r : List Int} {c : Nat} (h : SqL K H a (vi r)) (h0 : 0 < r.length) (h1 : r.length ≤ 4000) (c0 : 1 ≤ c) (c1 : c ≤ r.length) : SpL (sp_each K) [.ref a, .int (c : Int)] H (vi (eachL r c)) := fun H1 e Q q E => ⟨a, r, c, rfl, ex_l e h, h0, h1, c0, c1, q⟩
theorem ok_each (T : Txt K mg) : FnG P w K mg base CX0 3 T.a_each T.d_each ["row", "step"] (sp_each K) := by
  refine okG T.F_each sc_each (fun vs H Q E h => ?_) (fun cdv A out s H vs Q E hr h => ?_)
  · obtain ⟨a, r, c, rfl, hS, h0, h1, c0, c1, q⟩ := h
    rfl
  · obtain ⟨a, r, c, rfl, hS, h0, h1, c0, c1, q⟩ := h
    refine ⟨_, (pss_cons (ps_expr (callG (ok_check_row T) (hr.mono (by decide)) (by rfl) T.g_check_row T.F_check_row.kp (b_check_row T) .nil pass0 (pa_cons (pv 0) pa_nil)))
    (pss_cons (ps_if (pt_not (pt_val (callG (ok_is_from_to T) (hr.mono (by decide)) (by rfl) T.g_is_from_to T.F_is_from_to.kp (b_is_from_to T) .nil pass0 (pa_cons (pv 1) (pa_cons pe_int (pa_cons (pe_callB (call_lenK (K := K) rfl) (by rfl) T.z_len bt_len (pa_cons (pv 0) pa_nil)) pa_nil))))))
      (pss_one ps_never)
      pss_nil)
    (pss_one (ps_ret (pe_sliceS (pv 0) (po_some (pe_op op_sub (pv 1) pe_int)) (po_some (pv 1))))))), ?_⟩
    refine q_drop (ev_call (ea_cons (ev_var rfl) ea_nil) (v_check_row hS h0 h1)) fun H1 e1 => ?_
    have hS1 := ex_l e1 hS
    refine q_when (b := false) (et_not (a := true) (et_test (ev_is (ev_call (ea_cons (ev_var rfl) (ea_cons ev_c (ea_cons (ev_is (ev_len (ev_var rfl) hS1) (by rw [List.length_map])) ea_nil))) v_is_from_to) (by rw [decide_eq_true (show (1 : Int) ≤ (c : Int) by omega), decide_eq_true (show (c : Int) ≤ (r.length : Int) by omega)]; rfl)))) (fun h => nomatch h) fun _ H2 e2 => ?_
    exact s_retL (el_is (el_slS (ev_var rfl) (eo_some (ev_op (ev_var rfl) ev_c rv_I0)) (eo_some (ev_var rfl)) (ex_l e2 hS1) (by intro z; have := Option.some.inj z; omega)) (step_tab c0 c1)) fun p H3 hp e3 h3 => q p H3 (fresh_back (e1.trans e2) hp) ((e1.trans e2).trans e3) h3
/-! ### _law_deck -/
def sp_law_deck (K : PySem.W.Frag) : Sp := fun vs H Q _ => ∃ (a : Addr) (n : Nat) (most : Int), vs = [.ref a, .int most] ∧ Well H a n ∧ 1 ≤ most ∧ most ≤ 300 ∧ n + 700 ≤ 2 ^ 50 ∧ ∀ p ns H2, H p = none → But a H H2 → Well H2 a (n + 700) → H2 p = some (.tup (vi ns)) → Shf ns → (ns.length : Int) ≤ most → Q (.ref p) H2
theorem wu_law_deck {K : PySem.W.Frag} {E : XK} {σ : L2.St} {H : Hp} {a : Addr} {i d : Nat} {te : TE} {P : Int → Prop} (hσ : σ[i]? = some (some (.ref a))) (h : EvW a d te σ H (fun v => ∃ r, v = .int r ∧ P r)) (hP : ∀ r, P r → 1 ≤ r ∧ r ≤ 300) :
    EvWU a (d + 700) (tCall (sp_law_deck K) [] E (tCons (tVar i) (tCons te tNil))) σ H (fun xs => ∃ ns, xs = vi ns ∧ Shf ns ∧ ∃ r, P r ∧ (ns.length : Int) ≤ r) :=
  fun n H1 b w l Q q => ⟨.ref a, hσ, h n H1 b w (by omega) _ fun v H2 b2 w2 ⟨r, er, pr⟩ => by
    subst er
    obtain ⟨r0, r1⟩ := hP r pr
    exact ⟨a, n + d, r, rfl, w2, r0, r1, by omega, fun p ns H3 hp b3 w3 h3 sh hl => q p (vi ns) H3 (but_free b2 w2 hp) (b2.trans b3) w3 h3 ⟨ns, rfl, sh, r, pr, hl⟩⟩⟩
theorem ok_law_deck (T : Txt K mg) : FnG P w K mg base CX0 3 T.a_law_deck T.d_law_deck ["well", "most"] (sp_law_deck K) := by
  refine okG T.F_law_deck sc_law_deck (fun vs H Q E h => ?_) (fun cdv A out s H vs Q E hr h => ?_)
  · obtain ⟨a, n, most, rfl, hw, m0, m1, hn, q⟩ := h
    rfl
  · obtain ⟨a, n, most, rfl, hw, m0, m1, hn, q⟩ := h
    refine ⟨_, (pss_cons (ps_set (i := 2) sc_law_deck.nd rfl (.inl rfl) (pe_op op_add pe_int (callG (ok_law_draw T) (hr.mono (by decide)) (by rfl) T.g_law_draw T.F_law_draw.kp (b_law_draw T) .nil pass0 (pa_cons (pv 0) (pa_cons (pv 1) pa_nil)))))
    (pss_cons (ps_set (i := 3) sc_law_deck.nd rfl (.inl rfl) (callG (ok_law_mixed T) (hr.mono (by decide)) (by rfl) T.g_law_mixed T.F_law_mixed.kp (b_law_mixed T) .nil pass0 (pa_cons (pv 0) (pa_cons (pv 2) pa_nil))))
    (pss_cons (ps_if (pt_cmpR op_eq (callG (ok_law_draw T) (hr.mono (by decide)) (by rfl) T.g_law_draw T.F_law_draw.kp (b_law_draw T) .nil pass0 (pa_cons (pv 0) (pa_cons pe_int pa_nil))) pe_int (nomark _))
      (pss_one (ps_ret (pe_callTy (call_tupleK (K := K) rfl) (by rfl) T.z_tuple bt_tuple (pa_cons (pv 3) pa_nil))))
      pss_nil)
    (pss_one (ps_ret (callG (ok_law_ringed T) (hr.mono (by decide)) (by rfl) T.g_law_ringed T.F_law_ringed.kp (b_law_ringed T) .nil pass0 (pa_cons (pv 0) (pa_cons (pv 3) (pa_cons (pe_op op_add pe_int (callG (ok_law_draw T) (hr.mono (by decide)) (by rfl) T.g_law_draw T.F_law_draw.kp (b_law_draw T) .nil pass0 (pa_cons (pv 0) (pa_cons (pv 2) pa_nil)))) pa_nil))))))))), ?_⟩
    refine qw_asg (ew_add (P := fun r => 1 ≤ r ∧ r ≤ most) (ew_c (P := fun r => r = 1) rfl) (ew_drawC (m := most) rfl (ev_var rfl) (by omega) (lt8000 (by omega))) (fun x y hx hy => by omega)) hw (by omega) ?_
    rintro v H1 b1 w1 ⟨r, rfl, r0, r1⟩
    obtain ⟨m, rfl⟩ : ∃ k : Nat, r = k := ⟨r.toNat, by omega⟩
    refine qw_asgL (wl_law_mixed (m := m) rfl (ev_var rfl) (by omega)) w1 (by omega) ?_
    rintro p _ H2 f2 b2 w2 h2 ⟨pl, rfl, pm⟩
    have np : p ≠ a := w1.ne f2
    have hlen : pl.length = m := by rw [pm.length_eq, iota_length]
    have sh : Shf pl := ⟨by omega, by omega, by rw [hlen]; exact pm⟩
    have fp : H p = none := but_free b1 w1 f2
    refine qw_if (ew_eq (P2 := fun r => r = 0) (ew_drawC (m := 3) rfl ev_c (by decide) (lt8000 (by decide))) (ew_c rfl)) w2 (by omega) ?_ ?_
    · intro H3 b3 w3
      have h3 := b3 _ _ np h2
      refine s_retU (eu_tupOf (ev_var rfl) (sq_of h3)) fun r H4 hr e4 h4 => ?_
      exact q r pl H4 (but_free ((b1.trans b2).trans b3) w3 hr) (((b1.trans b2).trans b3).trans (But.ex e4)) ((w3.ex e4).mono (by omega)) h4 sh (by omega)
    · intro H3 b3 w3
      have h3 := b3 _ _ np h2
      refine ⟨.ref a, rfl, .ref p, rfl, ?_⟩
      refine (ew_add (P := fun r => 1 ≤ r ∧ r ≤ (m : Int)) (ew_c (P := fun r => r = 1) rfl) (ew_drawC (m := (m : Int)) rfl (ev_var rfl) (by omega) (lt8000 (by omega))) (fun x y hx hy => by omega)) _ H3 (But.refl a H3) w3 (by omega) _ ?_
      rintro v H4 b4 w4 ⟨r, rfl, r0, r1⟩
      refine ⟨a, p, _, r, pl, rfl, w4, np, sq_of (b4 _ _ np h3), sh, r0, by omega, by omega, fun r' ns H5 hr b5 w5 h5 ok el => ?_⟩
      have bb := (((b1.trans b2).trans b3).trans b4)
      exact q r' ns H5 (but_free bb w4 hr) (bb.trans b5) (w5.mono (by omega)) h5 ok (by omega)
/-! ### back_row -/
def sp_back_row (K : PySem.W.Frag) : Sp := fun vs H Q _ => ∃ (a : Addr) (ds : List Int) (m : Nat), vs = [.ref a, .int (m : Int)] ∧ SqT K H a (vi ds) ∧ Shf ds ∧ 1 ≤ m ∧ m ≤ 300 ∧ RetL (vi (up (backL ds m))) H Q
theorem l_back_row {K : PySem.W.Frag} {H : Hp} {a : Addr} {ds : List Int} {m : Nat} (h : SqT K H a (vi ds)) (s : Shf ds) (h1 : 1 ≤ m) (h2 : m ≤ 300) : SpL (sp_back_row K) [.ref a, .int (m : Int)] H (vi (up (backL ds m))) :=
  fun H1 e Q q E => ⟨a, ds, m, rfl, ex_t e h, s, h1, h2, q⟩
theorem ok_back_row (T : Txt K mg) : FnG P w K mg base CX0 4 T.a_back_row T.d_back_row ["shuffle", "many"] (sp_back_row K) := by
  refine okG T.F_back_row sc_back_row (fun vs H Q E h => ?_) (fun cdv A out s H vs Q E hr h => ?_)
  · obtain ⟨a, ds, m, rfl, hA, hs, m0, m1, q⟩ := h
    rfl
  · obtain ⟨a, ds, m, rfl, hA, hs, m0, m1, q⟩ := h
    refine ⟨_, (pss_cons (ps_set (i := 2) sc_back_row.nd rfl (.inr rfl) (callG (ok_lengths T) (hr.mono (by decide)) (by rfl) T.g_lengths T.F_lengths.kp (b_lengths T) .nil pass0 (pa_cons (pv 0) pa_nil)))
    (pss_cons (ps_expr (callG (ok_check_many T) (hr.mono (by decide)) (by rfl) T.g_check_many T.F_check_many.kp (b_check_many T) .nil pass0 (pa_cons (pv 1) pa_nil)))
    (pss_one (ps_ret (pe_lc (own := [("n", 3)]) (g := gName 3) rfl sc_back_row.nd (pi_range2 (by rfl) T.z_range (pa_cons pe_int (pa_cons (pe_op op_add (pv 1) pe_int) pa_nil))) (blkOk_by (own := [("n", 3)]) (N := ["shuffle", "many", "found", "n", "length"]) (sc := defScope s_back_row) (by decide +kernel)) (fun _ _ _ _ _ => (pg_name (i := 3) sc_back_row.nd rfl (Or.inr rfl))) (fun _ _ _ _ _ => pts_nil) (fun _ _ _ _ _ => (pe_callB (cr_sumK (K := K) rfl rfl) (by rfl) T.z_sum bt_sum (pa_cons (pe_lc (own := [("length", 4)]) (g := gName 4) rfl sc_back_row.nd (pi_listK (K := K) rfl (pv 2)) (blkOk_by (own := [("length", 4)]) (N := ["shuffle", "many", "found", "n", "length"]) (sc := _) (by change blkC _ { kind := .function, names := [(".0", .local), ("n", .cell), ("sum", .globalImplicit), ("found", .cell)], isGenerator := false, isCoroutine := false } _ _ = true; decide +kernel)) (fun _ _ _ _ _ => (pg_name (i := 4) sc_back_row.nd rfl (Or.inl rfl))) (fun _ _ _ _ _ => (pts_one (pt_cmpR op_eq (pe_op op_mod (pv 3) (pv 4)) pe_int (nomark _)))) (fun _ _ _ _ _ => (pv 4))) pa_nil)))))))), ?_⟩
    have h3 := hs.2.1
    have rg := rings_of hs
    have hrl := rings_length rg
    have hll := lens_length ds
    refine q_asgL (el_call (ea_cons (ev_var rfl) ea_nil) (l_lengths hA hs)) fun p H1 hp e1 h1 => ?_
    refine q_drop (ev_call (ea_cons (ev_var rfl) ea_nil) (v_check_many (by omega) (by omega))) fun H2 e2 => ?_
    refine s_retL (el_is (el_lcR2 (lo := 1) (n := (m : Int) + 1) (fun _ => true) (fun i => V.int ((cnt ds (i + 1) : Nat) : Int)) (ea_cons ev_c (ea_cons (ev_op (ev_var rfl) ev_c rv_I0) ea_nil)) (by omega) (fun _ => rfl) (fun _ _ _ _ => et_yes) ?_) ?_) fun p H3 hp e3 h3 => q p H3 (fresh_back (e1.trans e2) hp) ((e1.trans e2).trans e3) h3
    · intro i H3 e3 hi _
      refine ev_is (ev_sumN (ns := (lensL ds).filter fun l => decide ((1 + (i : Int)) % l = 0)) (el_is (el_lcL (fun j => decide ((1 + (i : Int)) % (lensL ds).getD j 0 = 0)) (fun j => V.int ((lensL ds).getD j 0)) (ev_var rfl) (sq_of (e3 _ _ (e2 _ _ h1))) (by rw [List.length_map]; omega) (fun _ => rfl) ?_ ?_) ?_)) ?_
      · intro j x H4 e4 hx
        obtain ⟨y, rfl, hy, hg⟩ := vi_inv hx
        have := lens_mem rg (List.mem_of_getElem? hy)
        rw [hg]
        exact et_is (et_test (ev_op (ev_op (ev_var rfl) (ev_var rfl) (rv_I (show (0 : Int) < y by omega))) ev_c (rv_eq rfl))) (by simp)
      · intro j x H4 e4 hx _
        obtain ⟨y, rfl, hy, hg⟩ := vi_inv hx
        rw [hg]
        exact ev_var rfl
      · rw [List.length_map]
        exact given_filter (lensL ds) fun l => decide ((1 + (i : Int)) % l = 0)
      · have := back_cnt hs rg (i + 1)
        rw [show ((i + 1 : Nat) : Int) = 1 + (i : Int) by omega] at this
        rw [this]
    · rw [show ((m : Int) + 1 - 1).toNat = m by omega, given_ints]
      unfold backL up
      rw [List.map_map]
      rfl
/-! ### first_bar -/
def sp_first_bar (K : PySem.W.Frag) : Sp := fun vs H Q _ => ∃ (a : Addr) (r : List Int), vs = [.ref a] ∧ SqL K H a (vi r) ∧ 0 < r.length ∧ r.length ≤ 4000 ∧ Free r ∧ RetV .non H Q
theorem v_first_bar {K : PySem.W.Frag} {H : Hp} {a : Addr} {r : List Int} (h : SqL K H a (vi r)) (h0 : 0 < r.length) (h1 : r.length ≤ 4000) (fr : Free r) : SpV (sp_first_bar K) [.ref a] H .non := fun H1 e Q q E => ⟨a, r, rfl, ex_l e h, h0, h1, fr, q⟩
theorem ok_first_bar (T : Txt K mg) : FnG P w K mg base CX0 4 T.a_first_bar T.d_first_bar ["row"] (sp_first_bar K) := by
  refine okG T.F_first_bar sc_first_bar (fun vs H Q E h => ?_) (fun cdv A out s H vs Q E hr h => ?_)
  · obtain ⟨a, r, rfl, hS, h0, h1, fr, q⟩ := h
    rfl
  · obtain ⟨a, r, rfl, hS, h0, h1, fr, q⟩ := h
    refine ⟨_, (pss_cons (ps_for PassesOwn.never rfl (pi_enumC (c := 1) (by rfl) T.z_enumerate (pa_cons (callG (ok_new_numbers T) (hr.mono (by decide)) (by rfl) T.g_new_numbers T.F_new_numbers.kp (b_new_numbers T) .nil pass0 (pa_cons (pv 0) pa_nil)) pa_nil)) (pg_tup rfl (pgs_cons (pg_name (i := 1) sc_first_bar.nd rfl (.inl rfl)) (pgs_cons (pg_name (i := 2) sc_first_bar.nd rfl (.inl rfl)) pgs_nil)))
      (pss_cons (ps_if (pt_cmpR op_ne (pe_op op_mod (pv 2) (pv 1)) pe_int (nomark _))
        (pss_one (ps_ret (pe_tup (pa_cons (pv 1) (pa_cons pe_str pa_nil)))))
        pss_nil)
      (pss_one (ps_if (pt_cmpR op_lt (pv 2) pe_int (nomark _))
        (pss_one (ps_ret (pe_tup (pa_cons (pv 1) (pa_cons pe_str pa_nil)))))
        pss_nil))))
    (pss_one (ps_ret pe_non))), ?_⟩
    refine q_forNEnC (c := 1) (el_call (ea_cons (ev_var rfl) ea_nil) (l_new_numbers hS h0 h1)) (fun p i σ' H' => ∃ (y1 y2 : Option V), σ' = [some (.ref a), y1, y2] ∧ Ex H H' ∧ H' p = some (.lst (vi (newL r)))) ?_ ?_ ?_ ?_
    · intro p H1 _ e1 g1
      exact ⟨_, _, rfl, e1, g1⟩
    · rintro p i σ' H' _ ⟨y1, y2, rfl, e, g⟩
      exact sq_of g
    · rintro p i x σ' H' hx ⟨y1, y2, rfl, e, g⟩ H1 e1
      have hi : i < r.length := by
        have := (List.getElem?_eq_some_iff.mp hx).1
        rw [List.length_map, newL_length] at this
        exact this
      rw [getD_at (by rw [newL_length]; exact hi)] at hx
      cases hx
      obtain ⟨d, d0, ed⟩ := fr i hi
      rw [ed]
      have hd : 0 ≤ ((i + 1 : Nat) : Int) * d := Int.mul_nonneg (by omega) d0
      have e1i : (1 : Int) + (i : Int) = ((i + 1 : Nat) : Int) := by omega
      rw [e1i]
      refine q_when (b := false) (et_is (et_test (ev_op (ev_op (ev_var rfl) (ev_var rfl) (rv_I (show (0 : Int) < ((i + 1 : Nat) : Int) by omega))) ev_c (rv_ne rfl))) (by rw [Int.mul_emod_right]; rfl)) (fun h => nomatch h) fun _ H2 e2 => ?_
      refine s_when (b := false) (et_test (ev_op (ev_var rfl) ev_c (rv_b (decide_eq_false (by omega))))) (fun h => nomatch h) fun _ H3 e3 => ?_
      exact ⟨_, _, rfl, ((e.trans e1).trans e2).trans e3, e3 _ _ (e2 _ _ (e1 _ _ g))⟩
    · rintro p σ' H' ⟨y1, y2, rfl, e, g⟩
      exact s_ret ev_c fun H1 e1 => q H1 (e.trans e1)
/-! ### rings -/
def sp_rings (K : PySem.W.Frag) : Sp := fun vs H Q _ => ∃ (a : Addr) (r : List Int), vs = [.ref a] ∧ SqL K H a (vi r) ∧ 0 < r.length ∧ r.length ≤ 4000 ∧ Free r ∧ RetL (vi (ringsR r)) H Q
theorem l_rings {K : PySem.W.Frag} {H : Hp} {a : Addr} {r : List Int} (h : SqL K H a (vi r)) (h0 : 0 < r.length) (h1 : r.length ≤ 4000) (fr : Free r) : SpL (sp_rings K) [.ref a] H (vi (ringsR r)) := fun H1 e Q q E => ⟨a, r, rfl, ex_l e h, h0, h1, fr, q⟩
theorem ok_rings (T : Txt K mg) : FnG P w K mg base CX0 5 T.a_rings T.d_rings ["row"] (sp_rings K) := by
  refine okG T.F_rings sc_rings (fun vs H Q E h => ?_) (fun cdv A out s H vs Q E hr h => ?_)
  · obtain ⟨a, r, rfl, hS, h0, h1, fr, q⟩ := h
    rfl
  · obtain ⟨a, r, rfl, hS, h0, h1, fr, q⟩ := h
    refine ⟨_, (pss_cons (ps_set (i := 1) sc_rings.nd rfl (.inl rfl) (callG (ok_first_bar T) (hr.mono (by decide)) (by rfl) T.g_first_bar T.F_first_bar.kp (b_first_bar T) .nil pass0 (pa_cons (pv 0) pa_nil)))
    (pss_cons (ps_if (pt_cmpR op_notN (pv 1) pe_non (nomark _))
      (pss_one ps_never)
      pss_nil)
    (pss_one (ps_ret (pe_lc (own := [("n", 2), ("new", 3)]) (g := g2 K 2 3) rfl sc_rings.nd (pi_enumC (c := 1) (by rfl) T.z_enumerate (pa_cons (callG (ok_new_numbers T) (hr.mono (by decide)) (by rfl) T.g_new_numbers T.F_new_numbers.kp (b_new_numbers T) .nil pass0 (pa_cons (pv 0) pa_nil)) pa_nil)) (blkOk_by (own := [("n", 2), ("new", 3)]) (N := ["row", "bar", "n", "new"]) (sc := defScope s_rings) (by decide +kernel)) (fun _ _ _ _ _ => (pg_tup rfl (pgs_cons (pg_name (i := 2) sc_rings.nd rfl (Or.inl rfl)) (pgs_cons (pg_name (i := 3) sc_rings.nd rfl (Or.inl rfl)) pgs_nil)))) (fun _ _ _ _ _ => pts_nil) (fun _ _ _ _ _ => (pe_op op_fdivW (pv 3) (pv 2)))))))), ?_⟩
    refine q_asg (ev_call (ea_cons (ev_var rfl) ea_nil) (v_first_bar hS h0 h1 fr)) fun H1 e1 => ?_
    refine q_when (b := false) (et_test (ev_op (ev_var rfl) ev_c rv_notN)) (fun h => nomatch h) fun _ H2 e2 => ?_
    refine s_retL (el_is (el_lcNEnC (c := 1) (fun _ => true) (fun i => V.int ((newL r).getD i 0 / ((i + 1 : Nat) : Int))) (el_call (ea_cons (ev_var rfl) ea_nil) (l_new_numbers (ex_l (e1.trans e2) hS) h0 h1)) (by rw [List.length_map, newL_length]; omega) (fun _ _ => rfl) (fun _ _ _ _ _ => et_yes) ?_) ?_) fun p H3 hp e3 h3 => q p H3 (fresh_back (e1.trans e2) hp) ((e1.trans e2).trans e3) h3
    · intro i x H3 e3 hx _
      have hi : i < r.length := by
        have := (List.getElem?_eq_some_iff.mp hx).1
        rw [List.length_map, newL_length] at this
        exact this
      rw [getD_at (by rw [newL_length]; exact hi)] at hx
      cases hx
      exact ev_is (ev_op (ev_var rfl) (ev_var rfl) (rv_I (cdw _ (show (0 : Int) < 1 + (i : Int) by omega) (by omega)))) (by rw [show (1 : Int) + (i : Int) = ((i + 1 : Nat) : Int) by omega])
    · rw [List.length_map, newL_length]
      exact given_tab _ _
/-! ### _law_right -/
def sp_law_right (K : PySem.W.Frag) : Sp := fun vs H Q _ => ∃ (a : Addr) (n : Nat), vs = [.ref a] ∧ Well H a n ∧ n + 10000 ≤ 2 ^ 50 ∧ ∀ H2, But a H H2 → Q (.bl true) H2
theorem cnt_nn (L : List Int) (m : Nat) : ∀ n ∈ cntL L m, 0 ≤ n := fun n hn => by
  obtain ⟨i, _, rfl⟩ := List.mem_map.mp hn
  omega
theorem back_free {ds : List Int} (hs : Shf ds) (m : Nat) : Free (up (backL ds m)) := by
  rw [back_rowL hs]
  exact free_row (cnt_nn _ _)
theorem back_rings {ds : List Int} (hs : Shf ds) (m : Nat) : ringsR (up (backL ds m)) = cntL (lensL ds) m := by
  rw [back_rowL hs, rings_row]
theorem back_add {xs ys : List Int} (hx : Shf xs) (hy : Shf ys) (m : Nat) : addL (up (backL xs m)) (up (backL ys m)) = up (backL (besL xs ys) m) := by
  unfold addL
  rw [back_length, back_length, Nat.min_self, back_tab (besL xs ys)]
  refine tab_congr fun i hi => ?_
  rw [back_at hi, back_at hi, cnt_bes hx hy, Int.natCast_add]
theorem back_mul {xs ys : List Int} (hx : Shf xs) (hy : Shf ys) (m : Nat) : mulL (up (backL xs m)) (up (backL ys m)) = up (backL (pairL xs ys) m) := by
  unfold mulL
  rw [back_length, back_length, Nat.min_self, back_tab (pairL xs ys)]
  refine tab_congr fun i hi => ?_
  rw [back_at hi, back_at hi, cnt_pair hx hy, Int.natCast_mul]
theorem back_each {xs : List Int} (hx : Shf xs) {m s : Nat} (h : 1 ≤ s) : eachL (up (backL xs m)) s = up (backL (turnL xs (s : Int)) (m / s)) := by
  unfold eachL
  rw [back_length, back_tab (turnL xs (s : Int))]
  refine tab_congr fun i hi => ?_
  have hle : (i + 1) * s ≤ m := Nat.le_trans (Nat.mul_le_mul_right _ hi) (Nat.div_mul_le_self _ _)
  have hpos : 0 < (i + 1) * s := Nat.mul_pos (Nat.succ_pos i) (by omega)
  rw [back_at (by omega), cnt_turn hx, show (i + 1) * s - 1 + 1 = (i + 1) * s by omega, Nat.mul_comm]
theorem back_small {ds : List Int} (hs : Shf ds) (m i : Nat) : -(2 ^ 64) < (up (backL ds m)).getD i 0 ∧ (up (backL ds m)).getD i 0 < 2 ^ 64 := by
  have h3 := hs.2.1
  by_cases hi : i < m
  · rw [back_at hi]
    have := cnt_le ds (i + 1)
    omega
  · rw [List.getD_eq_getElem?_getD, List.getElem?_eq_none (by rw [back_length]; omega)]
    decide
theorem pair_shf {xs ys : List Int} (hx : Shf xs) (hy : Shf ys) (h : xs.length * ys.length ≤ 300) : Shf (pairL xs ys) := by
  have p0 : 0 < xs.length * ys.length := Nat.mul_pos hx.1 hy.1
  have hy0 := hy.1
  refine ⟨by rw [pairL_length]; exact p0, by rw [pairL_length]; exact h, ?_⟩
  rw [pairL_length]
  refine perm_iota ?_ ?_ (pairL_length xs ys)
  · show List.Pairwise _ _
    unfold pairL
    refine List.pairwise_map.mpr (List.Pairwise.imp_of_mem ?_ List.nodup_range)
    intro p q hp hq hne e
    have hp := List.mem_range.mp hp
    have hq := List.mem_range.mp hq
    have dp : p / ys.length < xs.length := Nat.div_lt_of_lt_mul (by rw [Nat.mul_comm]; exact hp)
    have dq : q / ys.length < xs.length := Nat.div_lt_of_lt_mul (by rw [Nat.mul_comm]; exact hq)
    have mp : p % ys.length < ys.length := Nat.mod_lt _ hy0
    have mq : q % ys.length < ys.length := Nat.mod_lt _ hy0
    rw [nx_get hx dp, nx_get hx dq, nx_get hy mp, nx_get hy mq, ← Int.natCast_mul, ← Int.natCast_mul, ← Int.natCast_add, ← Int.natCast_add] at e
    have e := Int.ofNat.inj e
    have lp := nx_lt hy mp
    have lq := nx_lt hy mq
    have a1 : (nx xs (p / ys.length) * ys.length + nx ys (p % ys.length)) / ys.length = (nx xs (q / ys.length) * ys.length + nx ys (q % ys.length)) / ys.length := by rw [e]
    have a2 : (nx xs (p / ys.length) * ys.length + nx ys (p % ys.length)) % ys.length = (nx xs (q / ys.length) * ys.length + nx ys (q % ys.length)) % ys.length := by rw [e]
    rw [Nat.mul_comm, Nat.mul_add_div hy0, Nat.div_eq_of_lt lp, Nat.mul_comm, Nat.mul_add_div hy0, Nat.div_eq_of_lt lq, Nat.add_zero, Nat.add_zero] at a1
    rw [Nat.mul_comm, Nat.mul_add_mod, Nat.mod_eq_of_lt lp, Nat.mul_comm, Nat.mul_add_mod, Nat.mod_eq_of_lt lq] at a2
    have b1 := nx_inj hx dp dq a1
    have b2 := nx_inj hy mp mq a2
    exact hne (by rw [← Nat.div_add_mod p ys.length, b1, b2, Nat.div_add_mod])
  · intro x hx'
    obtain ⟨p, hp, rfl⟩ := List.mem_map.mp hx'
    obtain ⟨a0, a1⟩ := Shf.getD_lt hx (p / ys.length)
    obtain ⟨b0, b1⟩ := Shf.getD_lt hy (p % ys.length)
    obtain ⟨c0, c1⟩ := pair_lt a0 a1 b0 b1
    rw [Int.natCast_mul]
    exact ⟨c0, c1⟩
theorem ok_law_right (T : Txt K mg) : FnG P w K mg base CX0 6 T.a_law_right T.d_law_right ["well"] (sp_law_right K) := by
  refine okG T.F_law_right sc_law_right (fun vs H Q E h => ?_) (fun cdv A out s H vs Q E hr h => ?_)
  · obtain ⟨a, n, rfl, hw, hn, q⟩ := h
    rfl
  · obtain ⟨a, n, rfl, hw, hn, q⟩ := h
    refine ⟨_, (pss_cons (ps_asg (pe_tup (pa_cons (callG (ok_law_deck T) (hr.mono (by decide)) (by rfl) T.g_law_deck T.F_law_deck.kp (b_law_deck T) .nil pass0 (pa_cons (pv 0) (pa_cons pe_int pa_nil))) (pa_cons (callG (ok_law_deck T) (hr.mono (by decide)) (by rfl) T.g_law_deck T.F_law_deck.kp (b_law_deck T) .nil pass0 (pa_cons (pv 0) (pa_cons pe_int pa_nil))) pa_nil))) (pg_tup rfl (pgs_cons (pg_name (i := 1) sc_law_right.nd rfl (.inr rfl)) (pgs_cons (pg_name (i := 2) sc_law_right.nd rfl (.inl rfl)) pgs_nil))))
    (pss_cons (ps_par (i := 3) (j := 4) (by rfl) sc_law_right.nd rfl rfl (by decide) rfl rfl (pa_cons (pe_op op_add pe_int (callG (ok_law_draw T) (hr.mono (by decide)) (by rfl) T.g_law_draw T.F_law_draw.kp (b_law_draw T) .nil pass0 (pa_cons (pv 0) (pa_cons pe_int pa_nil)))) (pa_cons (pe_op op_add pe_int (callG (ok_law_draw T) (hr.mono (by decide)) (by rfl) T.g_law_draw T.F_law_draw.kp (b_law_draw T) .nil pass0 (pa_cons (pv 0) (pa_cons pe_int pa_nil)))) pa_nil)) (by rfl))
    (pss_cons (ps_asg (pe_tup (pa_cons (callG (ok_back_row T) (hr.mono (by decide)) (by rfl) T.g_back_row T.F_back_row.kp (b_back_row T) .nil pass0 (pa_cons (pv 1) (pa_cons (pv 3) pa_nil))) (pa_cons (callG (ok_back_row T) (hr.mono (by decide)) (by rfl) T.g_back_row T.F_back_row.kp (b_back_row T) .nil pass0 (pa_cons (pv 2) (pa_cons (pv 3) pa_nil))) pa_nil))) (pg_tup rfl (pgs_cons (pg_name (i := 5) sc_law_right.nd rfl (.inr rfl)) (pgs_cons (pg_name (i := 6) sc_law_right.nd rfl (.inl rfl)) pgs_nil))))
    (pss_cons (ps_if (PW.pt (pw_or (pt_cmpR op_notN (callG (ok_first_bar T) (hr.mono (by decide)) (by rfl) T.g_first_bar T.F_first_bar.kp (b_first_bar T) .nil pass0 (pa_cons (pv 5) pa_nil)) pe_non (nomark _)) (pw_or1 (pt_cmpR op_notN (callG (ok_first_bar T) (hr.mono (by decide)) (by rfl) T.g_first_bar T.F_first_bar.kp (b_first_bar T) .nil pass0 (pa_cons (pv 6) pa_nil)) pe_non (nomark _)))))
      (pss_one (ps_ret pe_bl))
      pss_nil)
    (pss_cons (ps_set (i := 7) sc_law_right.nd rfl (.inr rfl) (callG (ok_lengths T) (hr.mono (by decide)) (by rfl) T.g_lengths T.F_lengths.kp (b_lengths T) .nil pass0 (pa_cons (pv 1) pa_nil)))
    (pss_cons (ps_if (pt_cmpR (op_neDK (K := K) rfl hr.rm.units) (callG (ok_rings T) (hr.mono (by decide)) (by rfl) T.g_rings T.F_rings.kp (b_rings T) .nil pass0 (pa_cons (pv 5) pa_nil)) (pe_lc (own := [("k", 10)]) (g := gName 10) rfl sc_law_right.nd (pi_range2 (by rfl) T.z_range (pa_cons pe_int (pa_cons (pe_op op_add (pv 3) pe_int) pa_nil))) (blkOk_by (own := [("k", 10)]) (N := ["well", "first", "second", "size", "step", "one_row", "other_row", "told", "whole", "length", "k", "n"]) (sc := defScope s_law_right) (by decide +kernel)) (fun _ _ _ _ _ => (pg_name (i := 10) sc_law_right.nd rfl (Or.inl rfl))) (fun _ _ _ _ _ => pts_nil) (fun _ _ _ _ _ => (pe_bmK (K := K) rfl PySem.F.plainAttrs_list PySem.F.slot_list_count PySem.F.type_list_count mt_lcount (pv 7) (pa_cons (pv 10) pa_nil)))) (nomark _))
      (pss_one (ps_ret pe_bl))
      pss_nil)
    (pss_cons (ps_if (pt_cmpR (op_neDK (K := K) rfl hr.rm.units) (callG (ok_back_row T) (hr.mono (by decide)) (by rfl) T.g_back_row T.F_back_row.kp (b_back_row T) .nil pass0 (pa_cons (callG (ok_beside T) (hr.mono (by decide)) (by rfl) T.g_beside T.F_beside.kp (b_beside T) .nil pass0 (pa_cons (pv 1) (pa_cons (pv 2) pa_nil))) (pa_cons (pv 3) pa_nil))) (callG (ok_added T) (hr.mono (by decide)) (by rfl) T.g_added T.F_added.kp (b_added T) .nil pass0 (pa_cons (pv 5) (pa_cons (pv 6) pa_nil))) (nomark _))
      (pss_one (ps_ret pe_bl))
      pss_nil)
    (pss_cons (ps_if (pt_cmpR (op_neDK (K := K) rfl hr.rm.units) (callG (ok_back_row T) (hr.mono (by decide)) (by rfl) T.g_back_row T.F_back_row.kp (b_back_row T) .nil pass0 (pa_cons (callG (ok_paired T) (hr.mono (by decide)) (by rfl) T.g_paired T.F_paired.kp (b_paired T) .nil pass0 (pa_cons (pv 1) (pa_cons (pv 2) pa_nil))) (pa_cons (pv 3) pa_nil))) (callG (ok_multiplied T) (hr.mono (by decide)) (by rfl) T.g_multiplied T.F_multiplied.kp (b_multiplied T) .nil pass0 (pa_cons (pv 5) (pa_cons (pv 6) pa_nil))) (nomark _))
      (pss_one (ps_ret pe_bl))
      pss_nil)
    (pss_cons (ps_if (PW.pt (pw_and (pt_cmpR op_le (pv 4) (pv 3) (nomark _)) (pw_and1 (pt_cmpR (op_neDK (K := K) rfl hr.rm.units) (callG (ok_back_row T) (hr.mono (by decide)) (by rfl) T.g_back_row T.F_back_row.kp (b_back_row T) .nil pass0 (pa_cons (callG (ok_turned T) (hr.mono (by decide)) (by rfl) T.g_turned T.F_turned.kp (b_turned T) .nil pass0 (pa_cons (pv 1) (pa_cons (pv 4) pa_nil))) (pa_cons (pe_op op_fdivW (pv 3) (pv 4)) pa_nil))) (callG (ok_each T) (hr.mono (by decide)) (by rfl) T.g_each T.F_each.kp (b_each T) .nil pass0 (pa_cons (pv 5) (pa_cons (pv 4) pa_nil))) (nomark _)))))
      (pss_one (ps_ret pe_bl))
      pss_nil)
    (pss_cons (ps_set (i := 8) sc_law_right.nd rfl (.inr rfl) pe_int)
    (pss_cons (ps_for PassesOwn.never rfl (pi_listK (K := K) rfl (pv 7)) (pg_name (i := 9) sc_law_right.nd rfl (.inl rfl))
      (pss_one (ps_set (i := 8) sc_law_right.nd rfl (.inr rfl) (callG (ok_law_common T) (hr.mono (by decide)) (by rfl) T.g_law_common T.F_law_common.kp (b_law_common T) .nil pass0 (pa_cons (pv 8) (pa_cons (pv 9) pa_nil))))))
    (pss_cons (ps_if (PW.pt (pw_or (pt_cmpR (op_neDK (K := K) rfl hr.rm.units) (callG (ok_turned T) (hr.mono (by decide)) (by rfl) T.g_turned T.F_turned.kp (b_turned T) .nil pass0 (pa_cons (pv 1) (pa_cons (pv 8) pa_nil))) (pe_tupRg rfl (by rfl) T.z_tuple (prg_1 (by rfl) T.z_range (pe_callB (call_lenK (K := K) rfl) (by rfl) T.z_len bt_len (pa_cons (pv 1) pa_nil)))) (nomark _)) (pw_or1 (pt_cmpR (op_neDK (K := K) rfl hr.rm.units) (callG (ok_turned T) (hr.mono (by decide)) (by rfl) T.g_turned T.F_turned.kp (b_turned T) .nil pass0 (pa_cons (pv 1) (pa_cons (pe_op op_sub pe_int (pv 8)) pa_nil))) (pv 1) (nomark _)))))
      (pss_one (ps_ret pe_bl))
      pss_nil)
    (pss_one (ps_ret (pe_cmpR (op_eqDK (K := K) rfl hr.rm.units) (pe_lc (own := [("n", 11)]) (g := gName 11) rfl sc_law_right.nd (pi_range2 (by rfl) T.z_range (pa_cons pe_int (pa_cons (pe_op op_add (pv 3) pe_int) pa_nil))) (blkOk_by (own := [("n", 11)]) (N := ["well", "first", "second", "size", "step", "one_row", "other_row", "told", "whole", "length", "k", "n"]) (sc := defScope s_law_right) (by decide +kernel)) (fun _ _ _ _ _ => (pg_name (i := 11) sc_law_right.nd rfl (Or.inl rfl))) (fun _ _ _ _ _ => (pts_one (pt_cmpR op_ne (pe_cmpR op_eq (pe_ix (ix_listK (K := K) rfl) (pv 5) (pe_op op_sub (pv 11) pe_int) (fun _ _ => rfl)) (pe_callB (call_lenK (K := K) rfl) (by rfl) T.z_len bt_len (pa_cons (pv 1) pa_nil)) (nomark _)) (pe_cmpR op_eq (pe_op op_mod (pe_callTy call_int1 (by rfl) T.z_int bt_int (pa_cons (pv 11) pa_nil)) (pv 8)) pe_int (nomark _)) (nomark _)))) (fun _ _ _ _ _ => (pv 11))) (pe_lst pa_nil) (nomark _)))))))))))))))), ?_⟩
    refine qw_tupUU (wu_law_deck (P := fun r => r = 15) rfl (ew_c rfl) (fun r hr => by omega)) (wu_law_deck (P := fun r => r = 15) rfl (ew_c rfl) (fun r hr => by omega)) hw (by omega) ?_
    rintro p1 p2 _ _ H1 f1 f2 b1 w1 h1 h2 ⟨xs, rfl, hx, _, rfl, lx⟩ ⟨ys, rfl, hy, _, rfl, ly⟩
    have n1 : p1 ≠ a := hw.ne f1
    have n2 : p2 ≠ a := hw.ne f2
    have x0 := hx.1
    have y0 := hy.1
    have hlx : ((vi xs).length : Int) = (xs.length : Int) := by rw [List.length_map]
    refine qw_parVV (PA := fun v => ∃ r : Int, v = .int r ∧ 1 ≤ r ∧ r ≤ 60) (PB := fun v => ∃ r : Int, v = .int r ∧ 1 ≤ r ∧ r ≤ 12) (ew_add (P := fun r => 1 ≤ r ∧ r ≤ 60) (ew_c (P := fun r => r = 1) rfl) (ew_drawC (m := 60) rfl ev_c (by decide) (lt8000 (by decide))) (fun x y hx hy => by omega)) (ew_add (P := fun r => 1 ≤ r ∧ r ≤ 12) (ew_c (P := fun r => r = 1) rfl) (ew_drawC (m := 12) rfl ev_c (by decide) (lt8000 (by decide))) (fun x y hx hy => by omega)) w1 (by omega) ?_
    rintro _ _ H2 b2 w2 ⟨m, rfl, m0, m1⟩ ⟨s, rfl, s0, s1⟩
    obtain ⟨m, rfl⟩ : ∃ k : Nat, m = k := ⟨m.toNat, by omega⟩
    obtain ⟨s, rfl⟩ : ∃ k : Nat, s = k := ⟨s.toNat, by omega⟩
    have hA : SqT K H2 p1 (vi xs) := st_of (b2 _ _ n1 h1)
    have hB : SqT K H2 p2 (vi ys) := st_of (b2 _ _ n2 h2)
    have bx := back_length xs m
    have by' := back_length ys m
    refine q_tupLL (el_call (ea_cons (ev_var rfl) (ea_cons (ev_var rfl) ea_nil)) (l_back_row hA hx (by omega) (by omega))) (fun p H3 _ e3 _ => el_call (ea_cons (ev_var rfl) (ea_cons (ev_var rfl) ea_nil)) (l_back_row (ex_t e3 hB) hy (by omega) (by omega))) fun p5 p6 H3 f5 f6 _ e3 h5 h6 => ?_
    refine q_when (b := false) (et_or (a := false) (b := false) (et_is (et_test (ev_op (ev_call (ea_cons (ev_var rfl) ea_nil) (v_first_bar (sq_of h5) (by omega) (by omega) (back_free hx m))) ev_c rv_notN)) (by simp)) fun _ => et_is (et_test (ev_op (ev_call (ea_cons (ev_var rfl) ea_nil) (v_first_bar (sq_of h6) (by omega) (by omega) (back_free hy m))) ev_c rv_notN)) (by simp)) (fun h => nomatch h) fun _ H4 e4 => ?_
    refine q_asgL (el_call (ea_cons (ev_var rfl) ea_nil) (l_lengths (ex_t (e3.trans e4) hA) hx)) fun p7 H5 f7 e5 h7 => ?_
    have e35 := (e3.trans e4).trans e5
    have hA5 := ex_t e35 hA
    have hB5 := ex_t e35 hB
    have g5 : SqL K H5 p5 (vi (up (backL xs m))) := sq_of (e5 _ _ (e4 _ _ h5))
    have g6 : SqL K H5 p6 (vi (up (backL ys m))) := sq_of (e5 _ _ (e4 _ _ h6))
    refine q_when (b := false) (et_is (et_test (ev_neLL (el_is (el_call (ea_cons (ev_var rfl) ea_nil) (l_rings g5 (by omega) (by omega) (back_free hx m))) (by rw [back_rings hx])) (el_is (el_lcR2 (lo := 1) (n := (m : Int) + 1) (fun _ => true) (fun k => V.int ((lensL xs).count ((k + 1 : Nat) : Int) : Int)) (ea_cons ev_c (ea_cons (ev_op (ev_var rfl) ev_c rv_I0) ea_nil)) (by omega) (fun _ => rfl) (fun _ _ _ _ => et_yes) (fun k H6 e6 _ _ => ev_is (ev_lcount (ev_var rfl) (e6 _ _ h7) (ev_var rfl)) (by rw [show (1 : Int) + (k : Int) = ((k + 1 : Nat) : Int) by omega]))) (show _ = vi (cntL (lensL xs) m) by rw [show ((m : Int) + 1 - 1).toNat = m by omega]; exact given_tab _ _)))) (by simp)) (fun h => nomatch h) fun _ H6 e6 => ?_
    have hA6 := ex_t e6 hA5
    have hB6 := ex_t e6 hB5
    have g56 := ex_l e6 g5
    have g66 := ex_l e6 g6
    refine q_when (b := false) (et_is (et_test (ev_neLL (el_callUV (xs := vi (besL xs ys)) (eu_call (ea_cons (ev_var rfl) (ea_cons (ev_var rfl) ea_nil)) (u_beside hA6 hB6 hx hy (by omega))) (fun _ _ _ _ => ev_var rfl) fun p H7 e7 h7 => l_back_row (st_of h7) (bes_shf hx hy (by omega)) (by omega) (by omega)) (el_is (el_call (ea_cons (ev_var rfl) (ea_cons (ev_var rfl) ea_nil)) (l_added g56 g66 (by omega) (by omega) (by omega) (by omega))) (by rw [back_add hx hy])))) (by simp)) (fun h => nomatch h) fun _ H7 e7 => ?_
    have hA7 := ex_t e7 hA6
    have hB7 := ex_t e7 hB6
    have g57 := ex_l e7 g56
    have g67 := ex_l e7 g66
    have hxy : xs.length * ys.length ≤ 300 := by
      have : xs.length * ys.length ≤ 15 * 15 := Nat.mul_le_mul (by omega) (by omega)
      omega
    refine q_when (b := false) (et_is (et_test (ev_neLL (el_callUV (xs := vi (pairL xs ys)) (eu_call (ea_cons (ev_var rfl) (ea_cons (ev_var rfl) ea_nil)) (u_paired hA7 hB7 hx hy hxy)) (fun _ _ _ _ => ev_var rfl) fun p H8 e8 h8 => l_back_row (st_of h8) (pair_shf hx hy hxy) (by omega) (by omega)) (el_is (el_call (ea_cons (ev_var rfl) (ea_cons (ev_var rfl) ea_nil)) (l_multiplied g57 g67 (by omega) (by omega) (by omega) (by omega) fun i => cml (back_small hx m i))) (by rw [back_mul hx hy])))) (by simp)) (fun h => nomatch h) fun _ H8 e8 => ?_
    have hA8 := ex_t e8 hA7
    have g58 := ex_l e8 g57
    refine q_when (b := false) (et_is (et_and (a := decide ((s : Int) ≤ (m : Int))) (b := false) (et_test (ev_op (ev_var rfl) (ev_var rfl) (rv_b rfl))) fun hb => ?_) (by simp)) (fun h => nomatch h) fun _ H9 e9 => ?_
    · have hsm := of_decide_eq_true hb
      have hq : 1 ≤ m / s := (Nat.le_div_iff_mul_le (by omega)).mpr (by omega)
      have hq2 := Nat.div_le_self m s
      exact et_is (et_test (ev_neLL (el_callUV (xs := vi (turnL xs (s : Int))) (eu_call (ea_cons (ev_var rfl) (ea_cons (ev_var rfl) ea_nil)) (u_turned hA8 hx)) (fun _ _ _ _ => ev_is (ev_op (ev_var rfl) (ev_var rfl) (rv_I (cdw _ (by omega) (by omega)))) (show _ = V.int ((m / s : Nat) : Int) by rw [Int.natCast_ediv])) fun p H9 e9 h9 => l_back_row (st_of h9) (turn_shf hx _) hq (by omega)) (el_is (el_call (ea_cons (ev_var rfl) (ea_cons (ev_var rfl) ea_nil)) (l_each g58 (by omega) (by omega) (by omega) (by omega))) (by rw [back_each hx (by omega)])))) (by simp)
    have g79 : H9 p7 = some (.lst (vi (lensL xs))) := e9 _ _ (e8 _ _ (e7 _ _ (e6 _ _ h7)))
    have hA9 := ex_t e9 hA8
    have g59 := ex_l e9 g58
    have rg := rings_of hx
    refine q_asg ev_c fun H10 e10 => ?_
    refine q_forLn (ev_var rfl) (sq_of (e10 _ _ g79)) (fun i σ' H' => ∃ (W : Nat) (y9 : Option V), σ' = [some (.ref a), some (.ref p1), some (.ref p2), some (.int (m : Int)), some (.int (s : Int)), some (.ref p5), some (.ref p6), some (.ref p7), some (.int (W : Int)), y9, none, none] ∧ Ex H9 H' ∧ 0 < W ∧ ∀ t : Nat, t % W = 0 ↔ ∀ l ∈ (lensL xs).take i, (t : Int) % l = 0) ?_ ?_ ?_ ?_
    · intro H11 e11
      refine ⟨1, _, rfl, e10.trans e11, by decide, fun t => ⟨(fun _ l hl => nomatch hl), fun _ => Nat.mod_one t⟩⟩
    · rintro i σ' H' _ ⟨W, y9, rfl, e, w0, hwt⟩
      exact sq_of (e _ _ g79)
    · rintro i x σ' H' hx' ⟨W, y9, rfl, e, w0, hwt⟩
      obtain ⟨l, rfl, hl, _⟩ := vi_inv hx'
      have hlm := lens_mem rg (List.mem_of_getElem? hl)
      obtain ⟨l, rfl⟩ : ∃ k : Nat, l = k := ⟨l.toNat, by omega⟩
      refine s_asg (ev_call (ea_cons (ev_var rfl) (ea_cons (ev_var rfl) ea_nil)) (v_law_common w0 (by omega) (by have := hx.2.1; omega))) fun H11 e11 => ?_
      refine ⟨Nat.lcm W l, _, rfl, e.trans e11, Nat.lcm_pos w0 (by omega), fun t => ?_⟩
      rw [List.take_add_one, hl]
      have d1 : t % Nat.lcm W l = 0 ↔ t % W = 0 ∧ t % l = 0 := by
        rw [← Nat.dvd_iff_mod_eq_zero, ← Nat.dvd_iff_mod_eq_zero, ← Nat.dvd_iff_mod_eq_zero, Nat.lcm_dvd_iff]
      rw [d1, hwt t]
      have d2 : (t : Int) % (l : Int) = 0 ↔ t % l = 0 := by
        rw [← Int.natCast_emod]
        omega
      constructor
      · rintro ⟨z1, z2⟩ y hy'
        rcases List.mem_append.mp hy' with z | z
        · exact z1 y z
        · rw [List.mem_singleton.mp z]
          exact d2.mpr z2
      · intro z
        exact ⟨fun y hy' => z y (List.mem_append_left _ hy'), d2.mp (z _ (List.mem_append_right _ (List.mem_singleton.mpr rfl)))⟩
    · rintro σ' H' ⟨W, y9, rfl, e, w0, hwt⟩
      rw [List.length_map, List.take_of_length_le (Nat.le_refl _)] at hwt
      have hW : Whole xs W := ⟨w0, hwt⟩
      have hA' := ex_t e hA9
      refine q_when (b := false) (et_or (a := false) (b := false) (et_is (et_test (ev_neUU (eu_is (eu_call (ea_cons (ev_var rfl) (ea_cons (ev_var rfl) ea_nil)) (u_turned hA' hx)) (by rw [turn_whole hx hW])) (eu_is (eu_rg1 (n := (xs.length : Int)) (ev_is (ev_lenT (ev_var rfl) hA') (by rw [hlx])) (by omega) (by omega)) (rgV_iota _)))) (by simp)) fun _ => et_is (et_test (ev_neUT (eu_is (eu_call (ea_cons (ev_var rfl) (ea_cons (ev_op ev_c (ev_var rfl) rv_I0) ea_nil)) (u_turned hA' hx)) (by rw [turn_less hx hW])) (ev_var rfl) hA')) (by simp)) (fun h => nomatch h) fun _ H11 e11 => ?_
      have g5' := ex_l (e.trans e11) g59
      have hA'' := ex_t e11 hA'
      refine s_ret (v := .bl true) (ev_is (ev_eqLL (ns := []) (ms := []) (el_is (el_lcR2 (lo := 1) (n := (m : Int) + 1) (fun _ => false) (fun k => V.int (1 + (k : Int))) (ea_cons ev_c (ea_cons (ev_op (ev_var rfl) ev_c rv_I0) ea_nil)) (by omega) (fun _ => rfl) ?_ (fun k H12 e12 _ h => nomatch h)) ?_) (el_lst ea_nil (Nat.zero_le _))) rfl) fun H12 e12 => ?_
      · intro k H12 e12 hk
        have hk' : k < m := by omega
        have gk : (vi (up (backL xs m)))[k]? = some (.int (cnt xs (k + 1) : Int)) := by
          rw [getD_at (by rw [bx]; exact hk'), back_at hk']
        have ew : ((1 : Int) + (k : Int)) % (W : Int) = (((k + 1) % W : Nat) : Int) := by
          rw [Int.natCast_emod, Int.natCast_add, Int.add_comm]
          rfl
        refine et_is (et_test (ev_op (ev_op (ev_op (ev_var rfl) (ev_is (ev_op (ev_var rfl) ev_c rv_I0) (show _ = V.int (k : Int) by congr 1; omega)) (rv_ixL (ex_l e12 g5') (atI_nat gk))) (ev_is (ev_lenT (ev_var rfl) (ex_t e12 hA'')) (by rw [hlx])) (rv_eq rfl)) (ev_op (ev_op (ev_int1 (ev_var rfl)) (ev_var rfl) (rv_I (show (0 : Int) < (W : Int) by omega))) ev_c (rv_eq rfl)) (rv_ne rfl))) ?_
        rw [ew]
        have key : cnt xs (k + 1) = xs.length ↔ (k + 1) % W = 0 := (cnt_all hx (k + 1)).trans (hwt (k + 1)).symm
        by_cases c : (k + 1) % W = 0
        · have c2 := key.mpr c
          simp [c, c2]
        · have c2 : ¬ cnt xs (k + 1) = xs.length := fun z => c (key.mp z)
          have c3 : ¬ (((cnt xs (k + 1) : Nat) : Int) = (xs.length : Int)) := by omega
          have c4 : ¬ ((((k + 1) % W : Nat) : Int) = 0) := by omega
          simp only [V.int.injEq, c3, c4, decide_false]
          rfl
      · unfold given
        have e0 : (List.range ((m : Int) + 1 - 1).toNat).filter (fun _ => false) = [] := List.filter_eq_nil_iff.mpr fun _ _ => by decide
        rw [e0]
        rfl
      · have eall := (((((e3.trans e4).trans e5).trans e6).trans e7).trans e8).trans e9
        exact q H12 ((b1.trans b2).trans (But.ex (eall.trans ((e.trans e11).trans e12))))
/-! ### law -/
def sp_law (K : PySem.W.Frag) : Sp := fun vs H Q _ => ∃ (a : Addr) (ns : List Int), vs = [.ref a] ∧ SqL K H a (vi ns) ∧ ns.length ≤ 63 ∧ ∀ H', Q (.bl true) H'
theorem ok_law (T : Txt K mg) : FnG P w K mg base CX0 7 T.a_law T.d_law ["script"] (sp_law K) := by
  refine okG T.F_law sc_law (fun vs H Q E h => ?_) (fun cdv A out s H vs Q E hr h => ?_)
  · obtain ⟨a, ns, rfl, hS, hl, q⟩ := h
    rfl
  · obtain ⟨a, ns, rfl, hS, hl, q⟩ := h
    refine ⟨_, (pss_cons (ps_for PassesOwn.never rfl (pi_range1 (by rfl) T.z_range (pa_cons (pe_callB (call_max2 rfl) (by rfl) T.z_max bt_max (pa_cons pe_int (pa_cons (pe_callB (call_min2 rfl) (by rfl) T.z_min bt_min (pa_cons pe_int (pa_cons (pe_callB (call_lenK (K := K) rfl) (by rfl) T.z_len bt_len (pa_cons (pv 0) pa_nil)) pa_nil))) pa_nil))) pa_nil)) (pg_name (i := 1) sc_law.nd rfl (.inl rfl))
      (pss_one (ps_if (pt_not (pt_val (callG (ok_law_right T) (hr.mono (by decide)) (by rfl) T.g_law_right T.F_law_right.kp (b_law_right T) .nil pass0 (pa_cons (callG (ok_law_well T) (hr.mono (by decide)) (by rfl) T.g_law_well T.F_law_well.kp (b_law_well T) .nil pass0 (pa_cons (pv 0) (pa_cons (pv 1) pa_nil))) pa_nil))))
        (pss_one (ps_ret pe_bl))
        pss_nil)))
    (pss_one (ps_ret pe_bl))), ?_⟩
    refine q_forR1 (ea_cons (ev_max2 ev_c (ev_min2 ev_c (ev_len (ev_var rfl) hS))) ea_nil) ?_ (fun i σ' H' => ∃ y1, σ' = [some (.ref a), y1] ∧ Ex H H') ?_ ?_ ?_
    · split <;> split <;> omega
    · intro H1 e1
      exact ⟨_, rfl, e1⟩
    · rintro i σ' H' hi ⟨y1, rfl, e⟩
      have h6 : (i : Int) < 64 := by
        split at hi <;> split at hi <;> omega
      refine ⟨.ref a, rfl, .int i, rfl, a, ns, i, rfl, ex_l e hS, by omega, by omega, fun p H1 hp e1 hw => ?_⟩
      refine ⟨p, 0, rfl, hw, by decide, fun H2 b2 => ⟨true, rfl, iteF ?_⟩⟩
      exact ⟨_, rfl, e.trans (ex_but e1 hp b2)⟩
    · rintro σ' H' ⟨y1, rfl, e⟩
      exact s_ret ev_c fun H2 _ => q H2
end
theorem all_mk {w : World} {K : PySem.W.Frag} {h : Heap} {mg : Str → Option Value} {fa : Addr} (X : K.In h) (G : h.Ns mainGlobals mg) (hfa : mg "law" = some (.ref fa))
    {f0 : Addr} {od0 an0 : Option Addr} {sl0 : Array (Option Value)} {oc0 kV0 dc0 pm0 cd0 ct0 : Value}
    (a0 : PySem.W.nsIn K mainGlobals "is_whole" = some (some (.ref f0))) (l0 : K.lookup f0 = some ⟨oc0, od0, .func (PySem.W.fnOf "is_whole" "is_whole" (defArgs s_is_whole) (defBody s_is_whole) (defScope s_is_whole) .none kV0 dc0 pm0 an0 cd0 ct0), sl0⟩) (c0 : PySem.W.codeIn K cd0 "is_whole" = true) (k0 : PySem.W.keepIn K (.ref f0) = true)
    {f1 : Addr} {od1 an1 : Option Addr} {sl1 : Array (Option Value)} {oc1 kV1 dc1 pm1 cd1 ct1 : Value}
    (a1 : PySem.W.nsIn K mainGlobals "_rings_in" = some (some (.ref f1))) (l1 : K.lookup f1 = some ⟨oc1, od1, .func (PySem.W.fnOf "_rings_in" "_rings_in" (defArgs s_rings_in) (defBody s_rings_in) (defScope s_rings_in) .none kV1 dc1 pm1 an1 cd1 ct1), sl1⟩) (c1 : PySem.W.codeIn K cd1 "_rings_in" = true) (k1 : PySem.W.keepIn K (.ref f1) = true)
    {f2 : Addr} {od2 an2 : Option Addr} {sl2 : Array (Option Value)} {oc2 kV2 dc2 pm2 cd2 ct2 : Value}
    (a2 : PySem.W.nsIn K mainGlobals "_check_things" = some (some (.ref f2))) (l2 : K.lookup f2 = some ⟨oc2, od2, .func (PySem.W.fnOf "_check_things" "_check_things" (defArgs s_check_things) (defBody s_check_things) (defScope s_check_things) .none kV2 dc2 pm2 an2 cd2 ct2), sl2⟩) (c2 : PySem.W.codeIn K cd2 "_check_things" = true) (k2 : PySem.W.keepIn K (.ref f2) = true)
    {f3 : Addr} {od3 an3 : Option Addr} {sl3 : Array (Option Value)} {oc3 kV3 dc3 pm3 cd3 ct3 : Value}
    (a3 : PySem.W.nsIn K mainGlobals "_law_well" = some (some (.ref f3))) (l3 : K.lookup f3 = some ⟨oc3, od3, .func (PySem.W.fnOf "_law_well" "_law_well" (defArgs s_law_well) (defBody s_law_well) (defScope s_law_well) .none kV3 dc3 pm3 an3 cd3 ct3), sl3⟩) (c3 : PySem.W.codeIn K cd3 "_law_well" = true) (k3 : PySem.W.keepIn K (.ref f3) = true)
    {f4 : Addr} {od4 an4 : Option Addr} {sl4 : Array (Option Value)} {oc4 kV4 dc4 pm4 cd4 ct4 : Value}
    (a4 : PySem.W.nsIn K mainGlobals "_law_draw" = some (some (.ref f4))) (l4 : K.lookup f4 = some ⟨oc4, od4, .func (PySem.W.fnOf "_law_draw" "_law_draw" (defArgs s_law_draw) (defBody s_law_draw) (defScope s_law_draw) .none kV4 dc4 pm4 an4 cd4 ct4), sl4⟩) (c4 : PySem.W.codeIn K cd4 "_law_draw" = true) (k4 : PySem.W.keepIn K (.ref f4) = true)
    {f5 : Addr} {od5 an5 : Option Addr} {sl5 : Array (Option Value)} {oc5 kV5 dc5 pm5 cd5 ct5 : Value}
    (a5 : PySem.W.nsIn K mainGlobals "_law_common" = some (some (.ref f5))) (l5 : K.lookup f5 = some ⟨oc5, od5, .func (PySem.W.fnOf "_law_common" "_law_common" (defArgs s_law_common) (defBody s_law_common) (defScope s_law_common) .none kV5 dc5 pm5 an5 cd5 ct5), sl5⟩) (c5 : PySem.W.codeIn K cd5 "_law_common" = true) (k5 : PySem.W.keepIn K (.ref f5) = true)
    {f6 : Addr} {od6 an6 : Option Addr} {sl6 : Array (Option Value)} {oc6 kV6 dc6 pm6 cd6 ct6 : Value}
    (a6 : PySem.W.nsIn K mainGlobals "is_from_to" = some (some (.ref f6))) (l6 : K.lookup f6 = some ⟨oc6, od6, .func (PySem.W.fnOf "is_from_to" "is_from_to" (defArgs s_is_from_to) (defBody s_is_from_to) (defScope s_is_from_to) .none kV6 dc6 pm6 an6 cd6 ct6), sl6⟩) (c6 : PySem.W.codeIn K cd6 "is_from_to" = true) (k6 : PySem.W.keepIn K (.ref f6) = true)
    {f7 : Addr} {od7 an7 : Option Addr} {sl7 : Array (Option Value)} {oc7 kV7 dc7 pm7 cd7 ct7 : Value}
    (a7 : PySem.W.nsIn K mainGlobals "check_row" = some (some (.ref f7))) (l7 : K.lookup f7 = some ⟨oc7, od7, .func (PySem.W.fnOf "check_row" "check_row" (defArgs s_check_row) (defBody s_check_row) (defScope s_check_row) .none kV7 dc7 pm7 an7 cd7 ct7), sl7⟩) (c7 : PySem.W.codeIn K cd7 "check_row" = true) (k7 : PySem.W.keepIn K (.ref f7) = true)
    {f8 : Addr} {od8 an8 : Option Addr} {sl8 : Array (Option Value)} {oc8 kV8 dc8 pm8 cd8 ct8 : Value}
    (a8 : PySem.W.nsIn K mainGlobals "check_shuffle" = some (some (.ref f8))) (l8 : K.lookup f8 = some ⟨oc8, od8, .func (PySem.W.fnOf "check_shuffle" "check_shuffle" (defArgs s_check_shuffle) (defBody s_check_shuffle) (defScope s_check_shuffle) .none kV8 dc8 pm8 an8 cd8 ct8), sl8⟩) (c8 : PySem.W.codeIn K cd8 "check_shuffle" = true) (k8 : PySem.W.keepIn K (.ref f8) = true)
    {f9 : Addr} {od9 an9 : Option Addr} {sl9 : Array (Option Value)} {oc9 kV9 dc9 pm9 cd9 ct9 : Value}
    (a9 : PySem.W.nsIn K mainGlobals "_law_mixed" = some (some (.ref f9))) (l9 : K.lookup f9 = some ⟨oc9, od9, .func (PySem.W.fnOf "_law_mixed" "_law_mixed" (defArgs s_law_mixed) (defBody s_law_mixed) (defScope s_law_mixed) .none kV9 dc9 pm9 an9 cd9 ct9), sl9⟩) (c9 : PySem.W.codeIn K cd9 "_law_mixed" = true) (k9 : PySem.W.keepIn K (.ref f9) = true)
    {f10 : Addr} {od10 an10 : Option Addr} {sl10 : Array (Option Value)} {oc10 kV10 dc10 pm10 cd10 ct10 : Value}
    (a10 : PySem.W.nsIn K mainGlobals "_law_ringed" = some (some (.ref f10))) (l10 : K.lookup f10 = some ⟨oc10, od10, .func (PySem.W.fnOf "_law_ringed" "_law_ringed" (defArgs s_law_ringed) (defBody s_law_ringed) (defScope s_law_ringed) .none kV10 dc10 pm10 an10 cd10 ct10), sl10⟩) (c10 : PySem.W.codeIn K cd10 "_law_ringed" = true) (k10 : PySem.W.keepIn K (.ref f10) = true)
    {f11 : Addr} {od11 an11 : Option Addr} {sl11 : Array (Option Value)} {oc11 kV11 dc11 pm11 cd11 ct11 : Value}
    (a11 : PySem.W.nsIn K mainGlobals "check_many" = some (some (.ref f11))) (l11 : K.lookup f11 = some ⟨oc11, od11, .func (PySem.W.fnOf "check_many" "check_many" (defArgs s_check_many) (defBody s_check_many) (defScope s_check_many) .none kV11 dc11 pm11 an11 cd11 ct11), sl11⟩) (c11 : PySem.W.codeIn K cd11 "check_many" = true) (k11 : PySem.W.keepIn K (.ref f11) = true)
    {f12 : Addr} {od12 an12 : Option Addr} {sl12 : Array (Option Value)} {oc12 kV12 dc12 pm12 cd12 ct12 : Value}
    (a12 : PySem.W.nsIn K mainGlobals "lengths" = some (some (.ref f12))) (l12 : K.lookup f12 = some ⟨oc12, od12, .func (PySem.W.fnOf "lengths" "lengths" (defArgs s_lengths) (defBody s_lengths) (defScope s_lengths) .none kV12 dc12 pm12 an12 cd12 ct12), sl12⟩) (c12 : PySem.W.codeIn K cd12 "lengths" = true) (k12 : PySem.W.keepIn K (.ref f12) = true)
    {f13 : Addr} {od13 an13 : Option Addr} {sl13 : Array (Option Value)} {oc13 kV13 dc13 pm13 cd13 ct13 : Value}
    (a13 : PySem.W.nsIn K mainGlobals "turned" = some (some (.ref f13))) (l13 : K.lookup f13 = some ⟨oc13, od13, .func (PySem.W.fnOf "turned" "turned" (defArgs s_turned) (defBody s_turned) (defScope s_turned) .none kV13 dc13 pm13 an13 cd13 ct13), sl13⟩) (c13 : PySem.W.codeIn K cd13 "turned" = true) (k13 : PySem.W.keepIn K (.ref f13) = true)
    {f14 : Addr} {od14 an14 : Option Addr} {sl14 : Array (Option Value)} {oc14 kV14 dc14 pm14 cd14 ct14 : Value}
    (a14 : PySem.W.nsIn K mainGlobals "beside" = some (some (.ref f14))) (l14 : K.lookup f14 = some ⟨oc14, od14, .func (PySem.W.fnOf "beside" "beside" (defArgs s_beside) (defBody s_beside) (defScope s_beside) .none kV14 dc14 pm14 an14 cd14 ct14), sl14⟩) (c14 : PySem.W.codeIn K cd14 "beside" = true) (k14 : PySem.W.keepIn K (.ref f14) = true)
    {f15 : Addr} {od15 an15 : Option Addr} {sl15 : Array (Option Value)} {oc15 kV15 dc15 pm15 cd15 ct15 : Value}
    (a15 : PySem.W.nsIn K mainGlobals "paired" = some (some (.ref f15))) (l15 : K.lookup f15 = some ⟨oc15, od15, .func (PySem.W.fnOf "paired" "paired" (defArgs s_paired) (defBody s_paired) (defScope s_paired) .none kV15 dc15 pm15 an15 cd15 ct15), sl15⟩) (c15 : PySem.W.codeIn K cd15 "paired" = true) (k15 : PySem.W.keepIn K (.ref f15) = true)
    {f16 : Addr} {od16 an16 : Option Addr} {sl16 : Array (Option Value)} {oc16 kV16 dc16 pm16 cd16 ct16 : Value}
    (a16 : PySem.W.nsIn K mainGlobals "new_numbers" = some (some (.ref f16))) (l16 : K.lookup f16 = some ⟨oc16, od16, .func (PySem.W.fnOf "new_numbers" "new_numbers" (defArgs s_new_numbers) (defBody s_new_numbers) (defScope s_new_numbers) .none kV16 dc16 pm16 an16 cd16 ct16), sl16⟩) (c16 : PySem.W.codeIn K cd16 "new_numbers" = true) (k16 : PySem.W.keepIn K (.ref f16) = true)
    {f17 : Addr} {od17 an17 : Option Addr} {sl17 : Array (Option Value)} {oc17 kV17 dc17 pm17 cd17 ct17 : Value}
    (a17 : PySem.W.nsIn K mainGlobals "added" = some (some (.ref f17))) (l17 : K.lookup f17 = some ⟨oc17, od17, .func (PySem.W.fnOf "added" "added" (defArgs s_added) (defBody s_added) (defScope s_added) .none kV17 dc17 pm17 an17 cd17 ct17), sl17⟩) (c17 : PySem.W.codeIn K cd17 "added" = true) (k17 : PySem.W.keepIn K (.ref f17) = true)
    {f18 : Addr} {od18 an18 : Option Addr} {sl18 : Array (Option Value)} {oc18 kV18 dc18 pm18 cd18 ct18 : Value}
    (a18 : PySem.W.nsIn K mainGlobals "multiplied" = some (some (.ref f18))) (l18 : K.lookup f18 = some ⟨oc18, od18, .func (PySem.W.fnOf "multiplied" "multiplied" (defArgs s_multiplied) (defBody s_multiplied) (defScope s_multiplied) .none kV18 dc18 pm18 an18 cd18 ct18), sl18⟩) (c18 : PySem.W.codeIn K cd18 "multiplied" = true) (k18 : PySem.W.keepIn K (.ref f18) = true)
    {f19 : Addr} {od19 an19 : Option Addr} {sl19 : Array (Option Value)} {oc19 kV19 dc19 pm19 cd19 ct19 : Value}
    (a19 : PySem.W.nsIn K mainGlobals "each" = some (some (.ref f19))) (l19 : K.lookup f19 = some ⟨oc19, od19, .func (PySem.W.fnOf "each" "each" (defArgs s_each) (defBody s_each) (defScope s_each) .none kV19 dc19 pm19 an19 cd19 ct19), sl19⟩) (c19 : PySem.W.codeIn K cd19 "each" = true) (k19 : PySem.W.keepIn K (.ref f19) = true)
    {f20 : Addr} {od20 an20 : Option Addr} {sl20 : Array (Option Value)} {oc20 kV20 dc20 pm20 cd20 ct20 : Value}
    (a20 : PySem.W.nsIn K mainGlobals "_law_deck" = some (some (.ref f20))) (l20 : K.lookup f20 = some ⟨oc20, od20, .func (PySem.W.fnOf "_law_deck" "_law_deck" (defArgs s_law_deck) (defBody s_law_deck) (defScope s_law_deck) .none kV20 dc20 pm20 an20 cd20 ct20), sl20⟩) (c20 : PySem.W.codeIn K cd20 "_law_deck" = true) (k20 : PySem.W.keepIn K (.ref f20) = true)
    {f21 : Addr} {od21 an21 : Option Addr} {sl21 : Array (Option Value)} {oc21 kV21 dc21 pm21 cd21 ct21 : Value}
    (a21 : PySem.W.nsIn K mainGlobals "back_row" = some (some (.ref f21))) (l21 : K.lookup f21 = some ⟨oc21, od21, .func (PySem.W.fnOf "back_row" "back_row" (defArgs s_back_row) (defBody s_back_row) (defScope s_back_row) .none kV21 dc21 pm21 an21 cd21 ct21), sl21⟩) (c21 : PySem.W.codeIn K cd21 "back_row" = true) (k21 : PySem.W.keepIn K (.ref f21) = true)
    {f22 : Addr} {od22 an22 : Option Addr} {sl22 : Array (Option Value)} {oc22 kV22 dc22 pm22 cd22 ct22 : Value}
    (a22 : PySem.W.nsIn K mainGlobals "first_bar" = some (some (.ref f22))) (l22 : K.lookup f22 = some ⟨oc22, od22, .func (PySem.W.fnOf "first_bar" "first_bar" (defArgs s_first_bar) (defBody s_first_bar) (defScope s_first_bar) .none kV22 dc22 pm22 an22 cd22 ct22), sl22⟩) (c22 : PySem.W.codeIn K cd22 "first_bar" = true) (k22 : PySem.W.keepIn K (.ref f22) = true)
    {f23 : Addr} {od23 an23 : Option Addr} {sl23 : Array (Option Value)} {oc23 kV23 dc23 pm23 cd23 ct23 : Value}
    (a23 : PySem.W.nsIn K mainGlobals "rings" = some (some (.ref f23))) (l23 : K.lookup f23 = some ⟨oc23, od23, .func (PySem.W.fnOf "rings" "rings" (defArgs s_rings) (defBody s_rings) (defScope s_rings) .none kV23 dc23 pm23 an23 cd23 ct23), sl23⟩) (c23 : PySem.W.codeIn K cd23 "rings" = true) (k23 : PySem.W.keepIn K (.ref f23) = true)
    {f24 : Addr} {od24 an24 : Option Addr} {sl24 : Array (Option Value)} {oc24 kV24 dc24 pm24 cd24 ct24 : Value}
    (a24 : PySem.W.nsIn K mainGlobals "_law_right" = some (some (.ref f24))) (l24 : K.lookup f24 = some ⟨oc24, od24, .func (PySem.W.fnOf "_law_right" "_law_right" (defArgs s_law_right) (defBody s_law_right) (defScope s_law_right) .none kV24 dc24 pm24 an24 cd24 ct24), sl24⟩) (c24 : PySem.W.codeIn K cd24 "_law_right" = true) (k24 : PySem.W.keepIn K (.ref f24) = true)
    {f25 : Addr} {od25 an25 : Option Addr} {sl25 : Array (Option Value)} {oc25 kV25 dc25 pm25 cd25 ct25 : Value}
    (a25 : PySem.W.nsIn K mainGlobals "law" = some (some (.ref f25))) (l25 : K.lookup f25 = some ⟨oc25, od25, .func (PySem.W.fnOf "law" "law" (defArgs s_law) (defBody s_law) (defScope s_law) .none kV25 dc25 pm25 an25 cd25 ct25), sl25⟩) (c25 : PySem.W.codeIn K cd25 "law" = true) (k25 : PySem.W.keepIn K (.ref f25) = true)
    {t_MOST_NUMBERS : Tok} (m_MOST_NUMBERS : PySem.W.nsIn K mainGlobals "MOST_NUMBERS" = some (some (.int 300 t_MOST_NUMBERS)))
    {t_MOST_THINGS : Tok} (m_MOST_THINGS : PySem.W.nsIn K mainGlobals "MOST_THINGS" = some (some (.int 300 t_MOST_THINGS)))
    (z_abs : PySem.W.nsIn K mainGlobals "abs" = some none)
    (z_all : PySem.W.nsIn K mainGlobals "all" = some none)
    (z_bool : PySem.W.nsIn K mainGlobals "bool" = some none)
    (z_enumerate : PySem.W.nsIn K mainGlobals "enumerate" = some none)
    (z_int : PySem.W.nsIn K mainGlobals "int" = some none)
    (z_isinstance : PySem.W.nsIn K mainGlobals "isinstance" = some none)
    (z_len : PySem.W.nsIn K mainGlobals "len" = some none)
    (z_list : PySem.W.nsIn K mainGlobals "list" = some none)
    (z_max : PySem.W.nsIn K mainGlobals "max" = some none)
    (z_min : PySem.W.nsIn K mainGlobals "min" = some none)
    (z_range : PySem.W.nsIn K mainGlobals "range" = some none)
    (z_sorted : PySem.W.nsIn K mainGlobals "sorted" = some none)
    (z_sum : PySem.W.nsIn K mainGlobals "sum" = some none)
    (z_tuple : PySem.W.nsIn K mainGlobals "tuple" = some none)
    (z_zip : PySem.W.nsIn K mainGlobals "zip" = some none)
    : ∃ fd : FuncData, (∀ (s : Shared) (v : Value), BindsTo s fd ⟨[v], []⟩ [("script", v)]) ∧ ∀ base : Heap, K.In base → base.Ns mainGlobals mg → FnG PySem.Challenge.rw_backafter_k18_whole_rows_of_shuffles.prog w K mg base CX0 7 fa fd ["script"] (sp_law K) := by
  have e := hfa.symm.trans (PySem.W.mg_of X G a25)
  cases e
  let T : Txt K mg := {
    a_is_whole := _
    d_is_whole := _
    F_is_whole := fun_mk (st := s_is_whole) l0 c0 k0
    g_is_whole := PySem.W.mg_of X G a0
    a_rings_in := _
    d_rings_in := _
    F_rings_in := fun_mk (st := s_rings_in) l1 c1 k1
    g_rings_in := PySem.W.mg_of X G a1
    a_check_things := _
    d_check_things := _
    F_check_things := fun_mk (st := s_check_things) l2 c2 k2
    g_check_things := PySem.W.mg_of X G a2
    a_law_well := _
    d_law_well := _
    F_law_well := fun_mk (st := s_law_well) l3 c3 k3
    g_law_well := PySem.W.mg_of X G a3
    a_law_draw := _
    d_law_draw := _
    F_law_draw := fun_mk (st := s_law_draw) l4 c4 k4
    g_law_draw := PySem.W.mg_of X G a4
    a_law_common := _
    d_law_common := _
    F_law_common := fun_mk (st := s_law_common) l5 c5 k5
    g_law_common := PySem.W.mg_of X G a5
    a_is_from_to := _
    d_is_from_to := _
    F_is_from_to := fun_mk (st := s_is_from_to) l6 c6 k6
    g_is_from_to := PySem.W.mg_of X G a6
    a_check_row := _
    d_check_row := _
    F_check_row := fun_mk (st := s_check_row) l7 c7 k7
    g_check_row := PySem.W.mg_of X G a7
    a_check_shuffle := _
    d_check_shuffle := _
    F_check_shuffle := fun_mk (st := s_check_shuffle) l8 c8 k8
    g_check_shuffle := PySem.W.mg_of X G a8
    a_law_mixed := _
    d_law_mixed := _
    F_law_mixed := fun_mk (st := s_law_mixed) l9 c9 k9
    g_law_mixed := PySem.W.mg_of X G a9
    a_law_ringed := _
    d_law_ringed := _
    F_law_ringed := fun_mk (st := s_law_ringed) l10 c10 k10
    g_law_ringed := PySem.W.mg_of X G a10
    a_check_many := _
    d_check_many := _
    F_check_many := fun_mk (st := s_check_many) l11 c11 k11
    g_check_many := PySem.W.mg_of X G a11
    a_lengths := _
    d_lengths := _
    F_lengths := fun_mk (st := s_lengths) l12 c12 k12
    g_lengths := PySem.W.mg_of X G a12
    a_turned := _
    d_turned := _
    F_turned := fun_mk (st := s_turned) l13 c13 k13
    g_turned := PySem.W.mg_of X G a13
    a_beside := _
    d_beside := _
    F_beside := fun_mk (st := s_beside) l14 c14 k14
    g_beside := PySem.W.mg_of X G a14
    a_paired := _
    d_paired := _
    F_paired := fun_mk (st := s_paired) l15 c15 k15
    g_paired := PySem.W.mg_of X G a15
    a_new_numbers := _
    d_new_numbers := _
    F_new_numbers := fun_mk (st := s_new_numbers) l16 c16 k16
    g_new_numbers := PySem.W.mg_of X G a16
    a_added := _
    d_added := _
    F_added := fun_mk (st := s_added) l17 c17 k17
    g_added := PySem.W.mg_of X G a17
    a_multiplied := _
    d_multiplied := _
    F_multiplied := fun_mk (st := s_multiplied) l18 c18 k18
    g_multiplied := PySem.W.mg_of X G a18
    a_each := _
    d_each := _
    F_each := fun_mk (st := s_each) l19 c19 k19
    g_each := PySem.W.mg_of X G a19
    a_law_deck := _
    d_law_deck := _
    F_law_deck := fun_mk (st := s_law_deck) l20 c20 k20
    g_law_deck := PySem.W.mg_of X G a20
    a_back_row := _
    d_back_row := _
    F_back_row := fun_mk (st := s_back_row) l21 c21 k21
    g_back_row := PySem.W.mg_of X G a21
    a_first_bar := _
    d_first_bar := _
    F_first_bar := fun_mk (st := s_first_bar) l22 c22 k22
    g_first_bar := PySem.W.mg_of X G a22
    a_rings := _
    d_rings := _
    F_rings := fun_mk (st := s_rings) l23 c23 k23
    g_rings := PySem.W.mg_of X G a23
    a_law_right := _
    d_law_right := _
    F_law_right := fun_mk (st := s_law_right) l24 c24 k24
    g_law_right := PySem.W.mg_of X G a24
    a_law := _
    d_law := _
    F_law := fun_mk (st := s_law) l25 c25 k25
    g_law := PySem.W.mg_of X G a25
    t_MOST_NUMBERS := t_MOST_NUMBERS
    c_MOST_NUMBERS := PySem.W.mg_of X G m_MOST_NUMBERS
    t_MOST_THINGS := t_MOST_THINGS
    c_MOST_THINGS := PySem.W.mg_of X G m_MOST_THINGS
    z_abs := PySem.W.mg_none_of X G z_abs
    z_all := PySem.W.mg_none_of X G z_all
    z_bool := PySem.W.mg_none_of X G z_bool
    z_enumerate := PySem.W.mg_none_of X G z_enumerate
    z_int := PySem.W.mg_none_of X G z_int
    z_isinstance := PySem.W.mg_none_of X G z_isinstance
    z_len := PySem.W.mg_none_of X G z_len
    z_list := PySem.W.mg_none_of X G z_list
    z_max := PySem.W.mg_none_of X G z_max
    z_min := PySem.W.mg_none_of X G z_min
    z_range := PySem.W.mg_none_of X G z_range
    z_sorted := PySem.W.mg_none_of X G z_sorted
    z_sum := PySem.W.mg_none_of X G z_sum
    z_tuple := PySem.W.mg_none_of X G z_tuple
    z_zip := PySem.W.mg_none_of X G z_zip }
  exact ⟨T.d_law, fun s v => .of_eq rfl, fun base _ _ => ok_law T⟩
end My
open PySem PySem.W PyProof.Rows
set_option maxHeartbeats 0 in
theorem PySem.Challenge.cw_backafter_k18_whole_rows_of_shuffles_holds : PySem.Challenge.rw_backafter_k18_whole_rows_of_shuffles.Holds := by
  w_on; o_law; k_head; (case hw => w_witness2)
  k_fill
  refine Bk.walkG (l := PySem.Challenge.rw_backafter_k18_whole_rows_of_shuffles) (n := 63) (k := 7) (x := "script") (CX := fun _ => L2.CX0) (sp := fun w => My.sp_law _) rfl (by decide) rfl ⟨⟨rfl, by decide, by decide⟩, rfl⟩ (fun w h Y => PySem.W.kIn_of Y) ?F (fun _ _ a ns hl _ hS => ⟨a, ns, rfl, hS, hl, fun _ => rfl⟩) (fun _ _ _ _ _ h => h)
  case F =>
    intro w mg fa h KX G hmg
    refine' My.all_mk KX G hmg ?a0 ?l0 ?c0 ?k0 ?a1 ?l1 ?c1 ?k1 ?a2 ?l2 ?c2 ?k2 ?a3 ?l3 ?c3 ?k3 ?a4 ?l4 ?c4 ?k4 ?a5 ?l5 ?c5 ?k5 ?a6 ?l6 ?c6 ?k6 ?a7 ?l7 ?c7 ?k7 ?a8 ?l8 ?c8 ?k8 ?a9 ?l9 ?c9 ?k9 ?a10 ?l10 ?c10 ?k10 ?a11 ?l11 ?c11 ?k11 ?a12 ?l12 ?c12 ?k12 ?a13 ?l13 ?c13 ?k13 ?a14 ?l14 ?c14 ?k14 ?a15 ?l15 ?c15 ?k15 ?a16 ?l16 ?c16 ?k16 ?a17 ?l17 ?c17 ?k17 ?a18 ?l18 ?c18 ?k18 ?a19 ?l19 ?c19 ?k19 ?a20 ?l20 ?c20 ?k20 ?a21 ?l21 ?c21 ?k21 ?a22 ?l22 ?c22 ?k22 ?a23 ?l23 ?c23 ?k23 ?a24 ?l24 ?c24 ?k24 ?a25 ?l25 ?c25 ?k25 ?m_MOST_NUMBERS ?m_MOST_THINGS ?z_abs ?z_all ?z_bool ?z_enumerate ?z_int ?z_isinstance ?z_len ?z_list ?z_max ?z_min ?z_range ?z_sorted ?z_sum ?z_tuple ?z_zip
    (case a0 => k_is); (case l0 => k_is); (case c0 => k_is); (case k0 => k_is); (case a1 => k_is); (case l1 => k_is); (case c1 => k_is); (case k1 => k_is); (case a2 => k_is); (case l2 => k_is); (case c2 => k_is); (case k2 => k_is); (case a3 => k_is); (case l3 => k_is); (case c3 => k_is); (case k3 => k_is); (case a4 => k_is); (case l4 => k_is); (case c4 => k_is); (case k4 => k_is); (case a5 => k_is); (case l5 => k_is); (case c5 => k_is); (case k5 => k_is); (case a6 => k_is); (case l6 => k_is); (case c6 => k_is); (case k6 => k_is); (case a7 => k_is); (case l7 => k_is); (case c7 => k_is); (case k7 => k_is); (case a8 => k_is); (case l8 => k_is); (case c8 => k_is); (case k8 => k_is); (case a9 => k_is); (case l9 => k_is); (case c9 => k_is); (case k9 => k_is); (case a10 => k_is); (case l10 => k_is); (case c10 => k_is); (case k10 => k_is); (case a11 => k_is); (case l11 => k_is); (case c11 => k_is); (case k11 => k_is); (case a12 => k_is); (case l12 => k_is); (case c12 => k_is); (case k12 => k_is); (case a13 => k_is); (case l13 => k_is); (case c13 => k_is); (case k13 => k_is); (case a14 => k_is); (case l14 => k_is); (case c14 => k_is); (case k14 => k_is); (case a15 => k_is); (case l15 => k_is); (case c15 => k_is); (case k15 => k_is); (case a16 => k_is); (case l16 => k_is); (case c16 => k_is); (case k16 => k_is); (case a17 => k_is); (case l17 => k_is); (case c17 => k_is); (case k17 => k_is); (case a18 => k_is); (case l18 => k_is); (case c18 => k_is); (case k18 => k_is); (case a19 => k_is); (case l19 => k_is); (case c19 => k_is); (case k19 => k_is); (case a20 => k_is); (case l20 => k_is); (case c20 => k_is); (case k20 => k_is); (case a21 => k_is); (case l21 => k_is); (case c21 => k_is); (case k21 => k_is); (case a22 => k_is); (case l22 => k_is); (case c22 => k_is); (case k22 => k_is); (case a23 => k_is); (case l23 => k_is); (case c23 => k_is); (case k23 => k_is); (case a24 => k_is); (case l24 => k_is); (case c24 => k_is); (case k24 => k_is); (case a25 => k_is); (case l25 => k_is); (case c25 => k_is); (case k25 => k_is); (case m_MOST_NUMBERS => k_is); (case m_MOST_THINGS => k_is); (case z_abs => k_is); (case z_all => k_is); (case z_bool => k_is); (case z_enumerate => k_is); (case z_int => k_is); (case z_isinstance => k_is); (case z_len => k_is); (case z_list => k_is); (case z_max => k_is); (case z_min => k_is); (case z_range => k_is); (case z_sorted => k_is); (case z_sum => k_is); (case z_tuple => k_is); (case z_zip => k_is)
