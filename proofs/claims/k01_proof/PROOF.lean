import PyProof.Rows.All
import Wide.All
import OpenK.AllK
import Wide.FinOn
import HandS.ForMost
import HandS.AnyAll
import HandS.GenOver
import PyProof.GenCompD
import PyProof.GenQ
import PyProof.ConsumeS
import HandS.Strs
import KE.GoesMore
import PyProof.EnumMake
import HandS.Walk
import HandS.TupAny
import HandS.TupMul
import HandS.TryOnly
import HandS.Evl
import HandS.Wide
import PyProof.ReprLen
import PyProof.StrLawsRepr
import HandS.IsInst
import HandS.ForExc
import HandS.ExcInit
import HandS.ExcOwn
import HandS.RaiseMore
import HandS.FStr
import HandS.CallLocal
import KE.KExcIs
import HandS.ExcIs
import HandS.ExcField
import KE.KNest
import KE.RegKIsAll
import PySem.Challenge.RW_countveil_k01_plans_looked_at
set_option Elab.async false
set_option linter.all false
set_option maxRecDepth 100000
set_option maxHeartbeats 4000000
/-! all(elt for x in it), the element free to call: the generator is walked with a word of the state. -/
namespace Gx
open PySem PySem.Spec PyProof.Rows
section
variable {prog : Program} {w : World}
/-- the state while the generator sleeps: no object changes -/
structure Slp (s s2 : Shared) : Prop where
  heap : s2.heap = s.heap
  os : s2.os = s.os
  bare : AllBare s.gens → AllBare s2.gens
  size : s.gens.size ≤ s2.gens.size
/-- what is known of one genexp: its code, its iterator, the state's word -/
structure Gw (prog : Program) (w : World) (A : Around) (elt iter : Expr) (tg : Expr) (scope : Scope) (pos : Pos) (I : Addr) (cenv : Env) (n : Nat) (pb : Nat → Bool) (a : Addr) (g : Nat) (Kd : Nat → Shared → Prop) (Kf : Shared → Prop) : Prop where
  hh : A.handled = none
  turn : ∀ j (s : Shared), j < n → Kd j s → wpAny (model prog w) (A.over (.compLoop (.GeneratorExp elt [⟨tg, iter, [], 0⟩] scope pos) 0 (.ref I) .none cenv) []) (pyNext (.ref I)) (fun r s1 => ∃ u, r = some u ∧
    wpAny (model prog w) (A.over (.compLoop (.GeneratorExp elt [⟨tg, iter, [], 0⟩] scope pos) 0 (.ref I) .none cenv) []) (letOwnedTupleGo tg (.ref I) u) (fun _ s2 =>
      wpAny (model prog w) (A.over (.compLoop (.GeneratorExp elt [⟨tg, iter, [], 0⟩] scope pos) 0 (.ref I) .none cenv) []) (assign tg cenv u) (fun _ s3 =>
        wpAny (model prog w) (A.over (.compLoop (.GeneratorExp elt [⟨tg, iter, [], 0⟩] scope pos) 0 (.ref I) .none cenv) []) (eval elt cenv) (fun y s4 => y = .bool (pb j) ∧ Kd (j + 1) s4) (fun _ _ => False) s3) (fun _ _ => False) s2) (fun _ _ => False) s1) (fun _ _ => False) s
  done : ∀ (s : Shared), Kd n s → wpAny (model prog w) (A.over (.compLoop (.GeneratorExp elt [⟨tg, iter, [], 0⟩] scope pos) 0 (.ref I) .none cenv) []) (pyNext (.ref I)) (fun r s1 => r = none ∧ Kf s1) (fun _ _ => False) s
  gn : ∀ j s, Kd j s → s.heap.IsGen a g ∧ s.heap.NoLimit
  sz : ∀ j s, Kd j s → g < s.gens.size
  slp : ∀ j s s2, Kd j s → Slp s s2 → Kd j s2
  co : cenv.scope.isCoroutine = false
/-- what is yielded, and how one goes on -/
def Yp (n : Nat) (pb : Nat → Bool) (Kd : Nat → Shared → Prop) : Protocol := fun m _ v s1 kap => v = .bool (pb (n - 1 - m)) ∧ Kd (n - m) s1 ∧ ∀ s2, Slp s1 s2 → kap (.send .none) s2
def Rp (Kf : Shared → Prop) : GenEnd := fun m _ r s1 => r = .ok .next ∧ (m = 0 ∧ Kf s1)
theorem seg_walk {A : Around} {elt iter : Expr} {tg : Expr} {scope : Scope} {pos : Pos} {I : Addr} {cenv : Env} {n : Nat} {pb : Nat → Bool} {a : Addr} {g : Nat} {Kd : Nat → Shared → Prop} {Kf : Shared → Prop}
    (G : Gw prog w A elt iter tg scope pos I cenv n pb a g Kd Kf) : ∀ (k j : Nat) (s0 s : Shared), n - j = k → j ≤ n → Kd j s →
      Seg (model prog w) A (Rp Kf) (Yp n pb Kd) (n - j) s0 (.compLoop (.GeneratorExp elt [⟨tg, iter, [], 0⟩] scope pos) 0 (.ref I) .none cenv)
        ((model prog w).den (.compLoop (.GeneratorExp elt [⟨tg, iter, [], 0⟩] scope pos) 0 (.ref I) .none cenv)) [] s := by
  have off : (A.over (.compLoop (.GeneratorExp elt [⟨tg, iter, [], 0⟩] scope pos) 0 (.ref I) .none cenv) []).handled = none := G.hh
  intro k
  induction k with
  | zero =>
    intro j s0 s hk hj kd
    obtain rfl : j = n := by omega
    show Seg _ A _ _ _ s0 _ ((compTurn _ 0 (.ref I) .none cenv).onRaise (leaving cenv)) [] s
    rw [compTurn_gen, Sem.onRaise_eq_wrap]
    refine seg_bind_wrap (wpAny_standAt (seg_bind_wrap (wpAny_mono (G.done s kd) (fun r s1 h => ?_) fun _ _ e => False.elim e)))
    obtain ⟨rfl, kf⟩ := h
    exact seg_end (.ok .next) ⟨rfl, Nat.sub_self _, kf⟩
  | succ k ih =>
    intro j s0 s hk hj kd
    have hlt : j < n := by omega
    show Seg _ A _ _ _ s0 _ ((compTurn _ 0 (.ref I) .none cenv).onRaise (leaving cenv)) [] s
    rw [compTurn_gen, Sem.onRaise_eq_wrap]
    refine seg_bind_wrap (wpAny_standAt (seg_bind_wrap (wpAny_mono (G.turn j s hlt kd) (fun r s1 h => ?_) fun _ _ e => False.elim e)))
    obtain ⟨u, rfl, h1⟩ := h
    refine seg_bind_wrap (wpAny_mono h1 (fun _ s2 h2 => ?_) fun _ _ e => False.elim e)
    refine seg_bind_wrap (wpAny_mono h2 (fun _ s3 h3 => ?_) fun _ _ e => False.elim e)
    simp only [List.forIn_nil, pure_bind, if_true]
    have hy : ∀ u, yieldOut cenv u = yieldValue u := fun u => by simp only [yieldOut, G.co, Bool.false_eq_true, if_false]
    simp only [hy]
    rw [Sem.bind_eq_wrap', Sem.bind_eq_wrap', Sem.wrap_wrap, Sem.wrap_wrap]
    refine seg_wrap (wpAny_mono h3 (fun y s3 h3 => ?_) fun _ _ e => False.elim e)
    obtain ⟨rfl, kd3⟩ := h3
    have e1 : n - j = (n - (j + 1)) + 1 := by omega
    rw [e1]
    refine seg_at (seg_yield rfl rfl rfl ⟨by rw [show n - 1 - (n - (j + 1)) = j by omega], by rw [show n - (n - (j + 1)) = j + 1 by omega]; exact kd3, fun s2 sl => ?_⟩)
    exact seg_again rfl (ih (j + 1) s2 s2 (by omega) hlt (G.slp _ _ _ kd3 sl))
/-- the generator sleeps, j items are out -/
structure GenK (prog : Program) (w : World) (A : Around) (n : Nat) (pb : Nat → Bool) (g : Nat) (Kd : Nat → Shared → Prop) (Kf : Shared → Prop) (j : Nat) (s : Shared) : Prop where
  kd : Kd j s
  go : ∃ gs, s.gens[g]? = some gs ∧ ∀ s2, Slp s s2 → gs.Goes (model prog w) A (Rp Kf) (Yp n pb Kd) (n - j) (.send .none) s2
theorem bare_set {s : Shared} {g : Nat} {x : GenState} (h : AllBare s.gens) (hx : x.bare = true) : AllBare (s.setGen g x).gens := fun y hy => by
  have hy' : y ∈ s.gens.setIfInBounds g x := hy
  rcases Array.mem_or_eq_of_mem_setIfInBounds hy' with h1 | h1
  · exact h y h1
  · rw [h1]
    exact hx
theorem slp_set {s : Shared} {g : Nat} {x : GenState} (hx : x.bare = true) : Slp s (s.setGen g x) :=
  ⟨rfl, rfl, fun h => bare_set h hx, by rw [GenW.setGen_size]; exact Nat.le_refl _⟩
theorem Slp.trans {s s2 s3 : Shared} (x : Slp s s2) (y : Slp s2 s3) : Slp s s3 := ⟨y.heap.trans x.heap, y.os.trans x.os, fun h => y.bare (x.bare h), Nat.le_trans x.size y.size⟩
theorem all_loop {A : Around} {elt iter : Expr} {tg : Expr} {scope : Scope} {pos : Pos} {I : Addr} {cenv : Env} {n : Nat} {pb : Nat → Bool} {a : Addr} {g : Nat} {Kd : Nat → Shared → Prop} {Kf Kz : Shared → Prop} {R : Result → Shared → Prop}
    (G : Gw prog w A.in1.in1 elt iter tg scope pos I cenv n pb a g Kd Kf) (hroom : A.in1.depth < recursionLimit) (z1 : ∀ (s : Shared) h2, Kf s → (∀ b o, s.heap.get? b = some o → h2.get? b = some o) → Kz { s.setGen g .finished with heap := h2 }) (z2 : ∀ j s, Kd j s → Kz s) :
    ∀ (k j : Nat) (s : Shared), n - j = k → j ≤ n → GenK prog w A.in1.in1 n pb g Kd Kf j s → (∀ s2, Kz s2 → R (.ok (.ret (.bool (((List.range n).drop j).all pb)))) s2) → codeAny (model prog w) A (.builtin "all.loop" ⟨[.ref a], []⟩) R s := by
  intro k
  induction k with
  | zero =>
    intro j s hk hj K hR
    obtain rfl : j = n := by omega
    obtain ⟨isg, lim⟩ := G.gn _ _ K.kd
    obtain ⟨gs, hgs, go⟩ := K.go
    rw [Nat.sub_self] at go
    refine codeAny_builtin F.entry_all_loop ?_
    rw [Around.under_plainId F.plain_all_loop _]
    show wpAny _ A.in1 (pyNext (.ref a) >>= _) _ _ s
    refine wpAny_bind (wpAny_pyNext_genexpQ (P := fun m _ s1 => m = 0 ∧ Kf s1) G.hh lim hroom isg hgs (go _ (slp_set rfl)) (fun v s1 gs2 _ hy => ?_) (fun s1 kf h2 keep => ?_))
    · obtain ⟨_, _, no⟩ := hy
      exact False.elim (no s1 ⟨rfl, rfl, fun h => h, Nat.le_refl _⟩)
    · refine wpAny_bind (wpAny_rule (wpAny_pure ?_))
      have h := hR _ (z1 s1 h2 kf.2 keep)
      rw [List.drop_of_length_le (by simp)] at h
      exact h
  | succ k ih =>
    intro j s hk hj K hR
    have hlt : j < n := by omega
    obtain ⟨isg, lim⟩ := G.gn _ _ K.kd
    obtain ⟨gs, hgs, go⟩ := K.go
    have hd : (List.range n).drop j = j :: (List.range n).drop (j + 1) := by
      rw [List.drop_eq_getElem_cons (by simpa using hlt)]
      simp
    have e1 : n - j = (n - (j + 1)) + 1 := by omega
    rw [e1] at go
    refine codeAny_builtin F.entry_all_loop ?_
    rw [Around.under_plainId F.plain_all_loop _]
    show wpAny _ A.in1 (pyNext (.ref a) >>= _) _ _ s
    refine wpAny_bind (wpAny_pyNext_genexpQ (P := fun m _ s1 => m = 0 ∧ Kf s1) G.hh lim hroom isg hgs (go _ (slp_set rfl)) (fun v s1 gs2 hb hy => ?_) (fun s1 kf h2 keep => ?_))
    · obtain ⟨ev, kd1, on⟩ := hy
      have e2 : n - 1 - (n - (j + 1) + 1 - 1) = j := by omega
      have e3 : n - (n - (j + 1) + 1 - 1) = j + 1 := by omega
      rw [e2] at ev
      rw [e3] at kd1
      subst ev
      have hsz := G.sz _ _ kd1
      have kd2 : Kd (j + 1) (s1.setGen g gs2) := G.slp _ _ _ kd1 (slp_set hb)
      have at2 : (s1.setGen g gs2).gens[g]? = some gs2 := by
        show (s1.gens.setIfInBounds g gs2)[g]? = some gs2
        rw [Array.getElem?_setIfInBounds_self_of_lt hsz]
      refine wpAny_bind (wpAny_holding (wpAny_truthy_bool (wpAny_bind (wpAny_letGo ?_))))
      cases hp : pb j with
      | true =>
        simp only [if_true]
        refine wpAny_pure ⟨plainId_quiet F.plain_all_loop _, ih (j + 1) _ (by omega) hlt ⟨kd2, gs2, at2, fun s2 sl => on s2 ((slp_set hb).trans sl)⟩ fun s2 kz => ?_⟩
        have h := hR s2 kz
        rw [hd, List.all_cons, hp, Bool.true_and] at h
        exact h
      | false =>
        simp only [Bool.false_eq_true, if_false]
        refine wpAny_bind (wpAny_rule (wpAny_pure ?_))
        have h := hR _ (z2 _ _ kd2)
        rw [hd, List.all_cons, hp, Bool.false_and] at h
        exact h
    · exact absurd kf.1 (Nat.succ_ne_zero _)
theorem seg_start {A : Around} {elt iter : Expr} {tg : Expr} {scope : Scope} {pos : Pos} {I : Addr} {cenv : Env} {n : Nat} {pb : Nat → Bool} {a : Addr} {g : Nat} {Kd : Nat → Shared → Prop} {Kf : Shared → Prop}
    (G : Gw prog w A elt iter tg scope pos I cenv n pb a g Kd Kf) (hself : ∀ (A' : Around) (s : Shared) (Q : Value → Shared → Prop) (E : Value → Shared → Prop), Kd 0 s → Q (.ref I) s → wpAny (model prog w) A' (pyIter (.ref I)) Q E s) (s0 s : Shared) (kd : Kd 0 s) :
    Seg (model prog w) A (Rp Kf) (Yp n pb Kd) n s0 (.compStart (.GeneratorExp elt [⟨tg, iter, [], 0⟩] scope pos) 0 (.ref I) .none cenv)
      ((model prog w).den (.compStart (.GeneratorExp elt [⟨tg, iter, [], 0⟩] scope pos) 0 (.ref I) .none cenv)) [] s := by
  have loop := seg_walk G n 0 s0 s (Nat.sub_zero _) (Nat.zero_le _) kd
  rw [Nat.sub_zero] at loop
  show Seg _ A _ _ _ s0 _ ((compStart _ 0 (.ref I) .none cenv).onRaise (leaving cenv)) [] s
  unfold compStart
  rw [Sem.onRaise_eq_wrap]
  show Seg _ A _ _ _ s0 _ ((ask >>= _).wrap _ _ _ _) [] s
  refine seg_bind_wrap (wpAny_askSetting ?_)
  split
  · exact seg_again rfl loop
  · first
      | exact seg_bind_wrap (wpAny_rule (seg_bind_wrap (wpAny_standAt (seg_bind_wrap (hself _ s _ _ kd (seg_again rfl loop))))))
      | (refine seg_bind_wrap (wpAny_rule ?_); show Seg _ A _ _ _ s0 _ ((standAt iter.pos >>= _).wrap _ _ _ _) [] s; exact seg_bind_wrap (wpAny_standAt (seg_bind_wrap (hself _ s _ _ kd (seg_again rfl loop)))))
/-- all(the generator at a) -/
theorem call_allG {A : Around} {E : Value → Shared → Prop} {elt iter : Expr} {tg : Expr} {scope : Scope} {pos : Pos} {I : Addr} {cenv : Env} {n : Nat} {pb : Nat → Bool} {a : Addr} {g : Nat} {Kd : Nat → Shared → Prop} {Kf Kz : Shared → Prop} {Q : Value → Shared → Prop} {s : Shared}
    (G : Gw prog w A.in1.in1 elt iter tg scope pos I cenv n pb a g Kd Kf) (hself : ∀ (A' : Around) (s : Shared) (Q : Value → Shared → Prop) (E : Value → Shared → Prop), Kd 0 s → Q (.ref I) s → wpAny (model prog w) A' (pyIter (.ref I)) Q E s)
    (hroom : A.depth < recursionLimit) (z1 : ∀ (s : Shared) h2, Kf s → (∀ b o, s.heap.get? b = some o → h2.get? b = some o) → Kz { s.setGen g .finished with heap := h2 }) (z2 : ∀ j s, Kd j s → Kz s)
    (kd : Kd 0 s) (hgs : s.gens[g]? = some (.fresh (.compStart (.GeneratorExp elt [⟨tg, iter, [], 0⟩] scope pos) 0 (.ref I) .none cenv))) (hQ : ∀ s2, Kz s2 → Q (.bool ((List.range n).all pb)) s2) :
    wpAny (model prog w) A (call (.builtin "all") [.ref a]) Q E s := by
  refine call_function_tree F.kind_all F.plain_all F.entry_all (F.args_all1 _) ?_
  unfold Builtin.«all»
  refine wpAny_bind (m := oneArg "all" _) (wpAny_pure (wpAny_bind (wpAny_pyIter_gen (G.gn _ _ kd).1 ?_)))
  refine wpAny_pure ⟨plainId_quiet F.plain_all_loop _, all_loop G hroom z1 z2 n 0 s (Nat.sub_zero _) (Nat.zero_le _) ⟨kd, _, hgs, fun s2 sl => ⟨rfl, ?_⟩⟩ fun s2 kz => ?_⟩
  · rw [Nat.sub_zero]
    exact seg_start G hself s2 s2 (G.slp _ _ _ kd sl)
  · rw [List.drop_zero]
    exact hQ s2 kz
end
end Gx
set_option Elab.async false
set_option linter.all false
set_option maxRecDepth 100000
set_option maxHeartbeats 4000000
namespace Gx
open PySem PySem.Spec PyProof.Rows L2
/-- within the generator's frame: what was tracked where it was made is H, the state s -/
abbrev gcx (X : Cx) (s : Shared) (H : Hp) (A' : Around) (cenv : Env) (fp : List Addr) : Cx :=
  { X with A := A', s_0 := s, H_0 := H, env := cenv, outer := X.stack, stack := cenv :: X.stack, ex := fp, fn := fun _ => false, calm := true, pn := [], xe := fun _ _ => False }
/-- the names of the generator's own scope -/
structure GenN (N : List Str) (sc scope : Scope) (own : List (Str × Nat)) : Prop where
  kind : scope.kind = .function
  co : scope.isCoroutine = false
  cell : ∀ y ∈ scope.names, y.2 ≠ .cell
  dot : scope.names.lookup (".0" : Str) = some NameKind.local
  uniq : ∀ y ∈ scope.names, scope.names.lookup y.1 = some y.2
  ix : ∀ p ∈ own, N[p.2]? = some p.1
  free : ∀ y ∈ scope.names, y.2 = .free → sc.names.lookup y.1 = some .cell ∨ sc.names.lookup y.1 = some .free
  own : ∀ y ∈ scope.names, y.2 = .local → y.1 ∈ own.map (·.1) ∨ y.1 ∉ N
abbrev genv (X : Cx) (scope : Scope) (C : Addr) (code : Value) : Env := genEnv scope (cloFrom X.env.cells scope.names []) C code builtinsNs X.env
abbrev gob (g : Nat) (n q : Str) (t1 t2 : Tok) : Obj := { cls := .type "generator", data := .fields #[.int g 0, .str n t1, .str q t2] }
section
variable {X : Cx} {pins : List (Addr × Obj)} {σ : L2.St} {H : Hp} {s : Shared}
theorem gcx_start {scope : Scope} {own : List (Str × Nat)} {fp : List Addr} {A' : Around} {code : Value} {it : Value} {h' : Heap} {gs : GenState} {o : Obj} {tk : Nat} (I : Inv X pins σ H s) (ok : GenN X.N X.env.scope scope own) (hN : X.N.Nodup) (hfp : ∀ b ∈ fp, FpOk X pins H b ∧ b < s.heap.objs.size)
    (hA : A'.handled = none) (hF : A'.frames = some (genv X scope s.heap.objs.size code :: X.stack)) (hb : gs.bare = true) (hod : ∀ v, o.data ≠ .cell v) (hof : o.isFreed = false)
    (ns : h'.Ns s.heap.objs.size (fun y => if y = ".0" then some it else none)) (sb : Heap.SameBut s.heap.objs.size (s.heap.push { cls := .type "frame", data := .dict #[] }) h') :
    Inv (gcx X s H A' (genv X scope s.heap.objs.size code) fp) [(h'.objs.size, o)] (wipe σ (own.map (·.2))) H { s with gens := s.gens.push gs, toks := tk, heap := h'.push o } := by
  have hsz : h'.objs.size = s.heap.objs.size + 1 := by rw [sb.1, Heap.size_push]
  have kp : ∀ b u, s.heap.get? b = some u → (h'.push o).get? b = some u := fun b u e => Heap.get?_push_of_some _ (sb.extBut b u (Nat.ne_of_lt (Heap.lt_size e)) (Heap.get?_push_of_some _ e))
  have hfree : ∀ y ∈ scope.names, y.2 = .free → ∃ c, X.env.cells.lookup y.1 = some c := fun y hy e => by
    rcases ok.free y hy e with k | k
    · exact I.ok.has _ (.inl k)
    · exact I.ok.has _ (.inr k)
  have cm : ∀ {y c}, (y, c) ∈ cloFrom X.env.cells scope.names [] → X.env.cells.lookup y = some c ∧ c < s.heap.objs.size := fun {y c} hm => by
    rcases cloFrom_mem hm with hm | ⟨h1, rfl⟩
    · cases hm
    · obtain ⟨c, hc⟩ := hfree _ h1 rfl
      rw [hc]
      obtain ⟨w, z⟩ := I.cell _ _ hc
      exact ⟨rfl, z.lt⟩
  have cl : ∀ {y c}, (genv X scope s.heap.objs.size code).cells.lookup y = some c → X.env.cells.lookup y = some c ∧ c < s.heap.objs.size := fun {y c} e => cm (PySem.mem_of_lookup e)
  have look : ∀ {y}, scope.names.lookup y = some .free → ∃ c, (genv X scope s.heap.objs.size code).cells.lookup y = some c ∧ X.env.cells.lookup y = some c := fun {y} hl => by
    obtain ⟨c, e⟩ := mem_lookup (cloFrom_has (cells := X.env.cells) (acc := []) (PySem.mem_of_lookup hl))
    exact ⟨c, e, (cl e).1⟩
  have okG : (gcx X s H A' (genv X scope s.heap.objs.size code) fp).Ok := by
    refine ⟨I.ok.mod, ok.kind, I.ok.glob, rfl, Nat.le_refl _, fun y z c e1 e2 => I.ok.inj y z c (cl e1).1 (cl e2).1, fun y hy => ?_, fun y c z e => ?_, fun _ => hA, hF, .inr ⟨rfl, rfl⟩, fun b hb => ⟨Nat.ne_of_lt (hfp b hb).2, fun y c e z => (hfp b hb).1.2.2.2.2.1 y c (cl e).1 z⟩, I.bs, Nat.le_trans I.ok.bsz I.sz, fun b o e hb => ?_, fun b hb z => ?_, I.stack, I.stkFree⟩
    · have hy' : scope.names.lookup y = some .cell ∨ scope.names.lookup y = some .free := hy
      rcases hy' with hy' | hy'
      · exact absurd rfl (ok.cell _ (PySem.mem_of_lookup hy'))
      · obtain ⟨c, h1, _⟩ := look hy'
        exact ⟨c, h1⟩
    · exact absurd (show false = true from z) Bool.false_ne_true
    · rcases (hfp b hb).1.2.2.2.1 with z | z
      · exact I.ok.noex b o e z
      · exact absurd (Nat.lt_of_lt_of_le (Heap.lt_size e) (Nat.le_trans I.ok.bsz z)) (Nat.lt_irrefl _)
    · rcases List.mem_cons.mp (I.stkSub b z) with z | z
      · exact (hfp b hb).1.2.1 z
      · exact (hfp b hb).1.2.2.1 z
  refine ⟨okG, rfl, I.bare.push hb, Un.kept kp, ⟨_, ns.push o, fun i y av e1 e2 e3 => ?_⟩, fun y c e => ?_, I.hok.fresh (Nat.le_refl _), fun y c e => I.freeC y c (cl e).1, fun p hp => ?_, I.hok.kept kp, by rw [wipe_length]; exact I.len⟩
  · obtain ⟨e2, hne⟩ := wipe_some e2
    have e1' : X.N[i]? = some y := e1
    have e3' : scope.names.lookup y = some .local ∨ scope.names.lookup y = some .cell ∨ scope.names.lookup y = some .free := e3
    rcases e3' with e3' | e3' | e3'
    · exfalso
      rcases ok.own _ (PySem.mem_of_lookup e3') rfl with h | h
      · obtain ⟨p, hp, hpy⟩ := List.mem_map.mp h
        have e4 := ok.ix p hp
        have hpy' : p.1 = y := hpy
        rw [hpy'] at e4
        exact hne (List.mem_map.mpr ⟨p, hp, nodup_ix hN e4 e1'⟩)
      · exact h (List.mem_of_getElem? e1')
    · exact absurd rfl (ok.cell _ (PySem.mem_of_lookup e3'))
    · obtain ⟨m, hn, hl⟩ := I.loc
      have hv : Vis X.env.scope y := (ok.free _ (PySem.mem_of_lookup e3') rfl).elim (fun k => .inr (.inl k)) (fun k => .inr (.inr k))
      obtain ⟨w, r, q⟩ := hl i y av e1' e2 hv
      obtain ⟨c, h1, h2⟩ := look e3'
      refine ⟨w, r, .inr ⟨.inr e3', c, h1, ?_⟩⟩
      rcases q with ⟨k, _⟩ | ⟨_, c', e', z⟩
      · have k : X.env.scope.names.lookup y = some .local := k
        rcases ok.free _ (PySem.mem_of_lookup e3') rfl with k' | k' <;> rw [show X.env.scope.names.lookup y = _ from k'] at k <;> cases k
      · rw [h2] at e'
        cases e'
        exact z.keeps kp
  · obtain ⟨w, z⟩ := I.cell y c (cl e).1
    exact ⟨w, z.keeps kp⟩
  · have e : p = (h'.objs.size, o) := by simpa using hp
    subst e
    refine ⟨Heap.get?_push_size _ hof, I.hok.fresh (by show s.heap.objs.size ≤ h'.objs.size; omega), ?_, ?_, hod⟩
    · show h'.objs.size ≠ s.heap.objs.size
      omega
    · intro hb
      obtain ⟨_, ob, ho, _⟩ := I.stack.mem hb
      have := Heap.lt_size ho
      have h9 : (h'.objs.size : Nat) < s.heap.objs.size := this
      omega
theorem inv_slp {s2 : Shared} (I : Inv X pins σ H s) (sl : Slp s s2) : Inv X pins σ H s2 := by
  obtain ⟨h1, h2, h3, _⟩ := sl
  exact ⟨I.ok, h2.trans I.os, h3 I.bare, by rw [h1]; exact I.base, by rw [h1]; exact I.loc, by rw [h1]; exact I.cell, I.free, I.freeC, by rw [h1]; exact I.pin, by rw [h1]; exact I.hok, I.len⟩
end
end Gx
set_option Elab.async false
set_option linter.all false
set_option maxRecDepth 100000
set_option maxHeartbeats 4000000
namespace Gx
open PySem PySem.Spec PyProof.Rows L2
/-- all over a generator whose element may call: n turns at most, W the word of what is tracked at each; the def's own table (at P) may grow at the start -/
def tAllG (P : Addr) (own : List (Str × Nat)) (wi : TI) (gt : TG) (te : TE) : TE := fun σ H Q => wi σ H fun J H1 => GxR.TabG H1 P ∧ ∃ (n : Nat) (pb : Nat → Bool) (W : Nat → L2.St → Hp → Prop),
  (∀ H2, GxR.Tabbed P H1 H2 → W 0 (wipe σ (own.map (·.2))) H2) ∧ (∀ j σ' H', j < n → W j σ' H' → J.go j H' ∧ ∀ x H2, J.yld j H' x H2 → gt x σ' H2 fun σ3 H3 => te σ3 H3 fun v H4 => v = .bl (pb j) ∧ W (j + 1) σ3 H4) ∧
  (∀ σ' H', W n σ' H' → J.stop n H') ∧ ∀ j σ' H', W j σ' H' → Q (.bl ((List.range n).all pb)) H'
theorem thnG {α : Type} {M : Model} {A : Around} {s : Shared} {t : Sem α} {Q Q' : α → Shared → Prop} {n : Nat} (hn : n ≤ s.gens.size) (h : wpAny M A t Q (fun _ _ => False) s) (hQ : ∀ a s', n ≤ s'.gens.size → Q a s' → Q' a s') :
    wpAny M A t Q' (fun _ _ => False) s := GenW.wpAny_gsz hn (wpAny_mono h (fun a s' q g => hQ a s' g q) fun _ _ e => e.elim)
theorem room_gen {k : Nat} {A : Around} {elt tg iter : Expr} {scope : Scope} {pos : Pos} {it : Value} {cenv : Env} (r : Room (k + 1) A) :
    Room k (A.in1.in1.over (.compLoop (.GeneratorExp elt [⟨tg, iter, [], 0⟩] scope pos) 0 it .none cenv) []) := by
  refine ⟨r.hd, ?_, ?_⟩
  · have := r.dp
    show A.depth + 0 + 1 + 3 * k + 5 < _
    omega
  · have := r.un
    show A.units + 1 + 1 + 0 + 3 * 1 + 16 * k + 200 < _
    omega
section
variable {X : Cx}
theorem pe_allG {c P : Addr} {elt iter tg : Expr} {p pos gpos : Pos} {scope : Scope} {own : List (Str × Nat)} {wi : TI} {gt : TG} {te : TE} {k : Nat}
    (hr : Room (k + 1) X.A) (hg : Gl X "all") (hm : X.mg "all" = none) (hb : bootBuiltins "all" = some (.builtin "all")) (TB : GxR.TabB X.base X.mg c P) (hcode : X.env.code = .ref c) (S : GenN X.N X.env.scope scope own) (hN : X.N.Nodup) (hi : PI X tg iter wi)
    (ht : ∀ (C : Addr) (code : Value) (s : Shared) (H : Hp) (A' : Around) (fp : List Addr), PG (gcx X s H A' (genv X scope C code) fp) tg gt)
    (hel : ∀ (C : Addr) (code : Value) (s : Shared) (H : Hp) (A' : Around) (fp : List Addr), Room k A' → PE (gcx X s H A' (genv X scope C code) fp) elt te)
    (hs : ∀ v, genFold iter X.env v = pure v)
    (he : starEach [.GeneratorExp elt [⟨tg, iter, [], 0⟩] scope gpos] X.env = (false, eval (.GeneratorExp elt [⟨tg, iter, [], 0⟩] scope gpos) X.env) :: starEach [] X.env := by rfl) :
    PE X (.Call (.Name "all" p) [.GeneratorExp elt [⟨tg, iter, [], 0⟩] scope gpos] [] pos) (tAllG P own wi gt te) := by
  refine ⟨fun pins s σ H Q I h => ?_⟩
  refine wpAny_Call_Name_kw (ld_blt I hg hm hb ?_)
  refine PyProof.Rows.callWith_builtin1 ?_ he (by rfl)
  rw [he]
  show wpAny _ _ (spliced ((false, eval (.GeneratorExp elt [⟨tg, iter, [], 0⟩] scope gpos) X.env) :: backTo pos (starEach [] X.env))) _ _ s
  have hfree : ∀ y ∈ scope.names, y.2 = .free → ∃ c, X.env.cells.lookup y.1 = some c := fun y hy e => by
    rcases S.free y hy e with z | z
    · exact I.ok.has _ (.inl z)
    · exact I.ok.has _ (.inr z)
  refine Calls.spliced_cons (wpAny_GeneratorExp_make S.co (closure_ok hfree) S.cell S.dot S.kind hr.depth ?_ hs)
  refine thn (hi.run pins s σ H _ I h) fun xv s1 h1 => thn h1 fun itv s2 h2 => ?_
  obtain ⟨it, fp, tn, J, H2, rfl, I2, T, st2, f2, ⟨ps, hP, ht0⟩, n, pb, W, w0, turn, stop, fin⟩ := h2
  refine ⟨I2.nolimit, ?_⟩
  have hPs : s2.heap.get? P = some { cls := .none, data := .fields ps } := I2.hok P _ hP
  have nP : ∀ b ∈ fp, b ≠ P := fun b hb e => by
    have := (f2 b hb).1
    rw [e, hP] at this
    cases this
  have cd : PySem.W.CodeHd s2.heap c P := TB.code.keeps I2.bk
  have cont : ∀ (code : Value) (h3 : Heap) (tk : Nat) (ps' : Array Value), Heap.ExtBut P s2.heap h3 → s2.heap.objs.size ≤ h3.objs.size → h3.get? P = some { cls := .none, data := .fields ps' } → (∃ more, ps' = ps ++ more) → TriplesOk ps'.toList →
      wpAny (model X.prog X.w) X.A (builtinsFor X.env.globals X.env.builtins) (fun bi s4 => ∀ h', h'.Ns s4.heap.objs.size (fun y => if y = ".0" then some (.ref it) else none) → Heap.SameBut s4.heap.objs.size (s4.heap.push { cls := .type "frame", data := .dict #[] }) h' →
        wpAny (model X.prog X.w) X.A (spliced (backTo pos (starEach [] X.env))) (fun us s5 => wpAny (model X.prog X.w) X.A (call (.builtin "all") (.ref h'.objs.size :: us)) (EP X pins σ Q) X.xe s5) X.xe { s4 with
            gens := s4.gens.push (.fresh (.compStart (.GeneratorExp elt [⟨tg, iter, [], 0⟩] scope gpos) 0 (.ref it) .none (genEnv scope (cloFrom X.env.cells scope.names []) s4.heap.objs.size code bi X.env))),
            toks := s4.toks + 1 + 1 + 1,
            heap := h'.push { cls := .type "generator", data := .fields #[.int s4.gens.size 0, .str "<genexpr>" (s4.toks + 1), .str (X.env.qual ++ "<genexpr>") (s4.toks + 1 + 1)] } }) X.xe { s2 with heap := h3, toks := tk } := by
    intro code h3 tk ps' hx hsz hP3 hmore ht3
    obtain ⟨bm, ob, e1, e2, e3, e4, e5, e6, e7, e8⟩ := TB.bm
    obtain ⟨more, em⟩ := hmore
    have keep3 : ∀ b u, b ≠ P → s2.heap.get? b = some u → h3.get? b = some u := fun b u hb e => hx b u hb e
    have I3 : Inv X pins σ (upd H2 P (.tbl (ps ++ more))) { s2 with heap := h3, toks := tk } := by
      have z := GxR.inv_tab (more := more) (h' := h3) (g' := s2.gens) (d' := s2.drawn) (t' := tk) I2 hP keep3 (by rw [← em]; exact hP3) I2.bare
      exact z
    refine wpAny_builtinsFor (m := X.mg) (by rw [I2.ok.glob]; exact (I2.mod.glob.keeps I2.bk).extBut hx TB.gP) e1 e2 (keep3 _ _ e4 (I2.bk _ _ e5)) e6 e7 e8 ?_
    intro h' ns sb
    refine Calls.spliced_nil ?_
    have hfp : ∀ b ∈ fp, FpOk X pins (upd H2 P (.tbl (ps ++ more))) b ∧ b < h3.objs.size := fun b hb => by
      obtain ⟨ob, e, _⟩ := T.obj _ _ st2 b hb
      refine ⟨⟨by rw [upd_ne (nP b hb)]; exact (f2 b hb).1, (f2 b hb).2⟩, Nat.lt_of_lt_of_le (Heap.lt_size e) hsz⟩
    have hF : (X.A.in1.in1.over (.compLoop (.GeneratorExp elt [⟨tg, iter, [], 0⟩] scope gpos) 0 (.ref it) .none (genv X scope h3.objs.size code)) []).frames = some (genv X scope h3.objs.size code :: X.stack) := by
      show pushEnvs [genv X scope h3.objs.size code] (pushEnvs [] X.A.frames) = _
      rw [I2.ok.frames]
      rfl
    have J0 := gcx_start (s := { s2 with heap := h3, toks := tk }) (A' := X.A.in1.in1.over (.compLoop (.GeneratorExp elt [⟨tg, iter, [], 0⟩] scope gpos) 0 (.ref it) .none (genv X scope h3.objs.size code)) []) (code := code) (it := .ref it)
      (gs := .fresh (.compStart (.GeneratorExp elt [⟨tg, iter, [], 0⟩] scope gpos) 0 (.ref it) .none (genv X scope h3.objs.size code)))
      (o := { cls := .type "generator", data := .fields #[.int s2.gens.size 0, .str "<genexpr>" (tk + 1), .str (X.env.qual ++ "<genexpr>") (tk + 1 + 1)] }) (tk := tk + 1 + 1 + 1) I3 S hN hfp hr.hd hF rfl (fun v z => by cases z) rfl ns sb
    have hsz' : h'.objs.size = h3.objs.size + 1 := by
      have z := sb.1
      rw [Heap.size_push] at z
      exact z
    have kp5 : ∀ b u, h3.get? b = some u → (h'.push { cls := .type "generator", data := .fields #[.int s2.gens.size 0, .str "<genexpr>" (tk + 1), .str (X.env.qual ++ "<genexpr>") (tk + 1 + 1)] }).get? b = some u := fun b u e => Heap.get?_push_of_some _ (sb.extBut b u (Nat.ne_of_lt (Heap.lt_size e)) (Heap.get?_push_of_some _ e))
    have st5 : tn 0 (h'.push { cls := .type "generator", data := .fields #[.int s2.gens.size 0, .str "<genexpr>" (tk + 1), .str (X.env.qual ++ "<genexpr>") (tk + 1 + 1)] }) := T.keep _ _ _ st2 fun b hb u e => kp5 b u (keep3 b u (nP b hb) e)
    generalize hgo : ({ cls := .type "generator", data := .fields #[.int s2.gens.size 0, .str "<genexpr>" (tk + 1), .str (X.env.qual ++ "<genexpr>") (tk + 1 + 1)] } : Obj) = go at J0 st5 ⊢
    generalize hA' : X.A.in1.in1.over (.compLoop (.GeneratorExp elt [⟨tg, iter, [], 0⟩] scope gpos) 0 (.ref it) .none (genv X scope h3.objs.size code)) [] = A' at J0
    have rA : Room k A' := by rw [← hA']; exact room_gen hr
    have stat : ∀ {H' : Hp}, (∀ b ∈ fp, H' b = none) → ∀ b ∈ fp, FpOk (gcx X { s2 with heap := h3, toks := tk } (upd H2 P (.tbl (ps ++ more))) A' (genv X scope h3.objs.size code) fp) [(h'.objs.size, go)] H' b := fun {H'} hn b hb => by
      refine ⟨hn b hb, (J0.ok.exf b hb).1, J0.ok.exfs b hb, .inl hb, (J0.ok.exf b hb).2, fun q hq => ?_⟩
      have e : q = (h'.objs.size, go) := by simpa using hq
      subst e
      have h9 : (b : Nat) < h3.objs.size := (hfp b hb).2
      intro e
      have e2 : (h'.objs.size : Nat) = b := e
      rw [hsz'] at e2
      exact Nat.not_lt_of_le (Nat.le_of_eq e2) (Nat.lt_succ_of_lt h9)
    let Kd : Nat → Shared → Prop := fun j s' => ∃ σ' H', Inv (gcx X { s2 with heap := h3, toks := tk } (upd H2 P (.tbl (ps ++ more))) A' (genv X scope h3.objs.size code) fp) [(h'.objs.size, go)] σ' H' s' ∧ W j σ' H' ∧ tn j s'.heap ∧ (∀ b ∈ fp, H' b = none) ∧ s2.gens.size + 1 ≤ s'.gens.size
    let Kf : Shared → Prop := fun s' => ∃ σ' H', Inv (gcx X { s2 with heap := h3, toks := tk } (upd H2 P (.tbl (ps ++ more))) A' (genv X scope h3.objs.size code) fp) [(h'.objs.size, go)] σ' H' s' ∧ W n σ' H'
    let Kz : Shared → Prop := fun s' => ∃ j σ' H', Inv X pins σ H' s' ∧ W j σ' H'
    have hch : ∀ b ∈ fp, (b ∈ X.ex ∨ X.s_0.heap.objs.size ≤ b) ∧ b ≠ X.env.locals ∧ (∀ x c, X.env.cells.lookup x = some c → c ≠ b) ∧ ∀ p ∈ X.pn ++ pins, p.1 ≠ b := fun b hb => ⟨(f2 b hb).2.2.2.1, (f2 b hb).2.1, (f2 b hb).2.2.2.2.1, (f2 b hb).2.2.2.2.2⟩
    have G : Gw X.prog X.w X.A.in1.in1 elt iter tg scope gpos it (genv X scope h3.objs.size code) n pb h'.objs.size s2.gens.size Kd Kf := by
      refine ⟨hr.hd, fun j s' hj kd => ?_, fun s' kd => ?_, fun j s' kd => ?_, fun j s' kd => ?_, fun j s' s'' kd sl => ?_, S.co⟩
      · obtain ⟨σ', H', Ig, wj, stj, frj, gz⟩ := kd
        obtain ⟨goj, step⟩ := turn j σ' H' hj wj
        rw [hA']
        refine thnG gz (T.item (gcx X { s2 with heap := h3, toks := tk } (upd H2 P (.tbl (ps ++ more))) A' (genv X scope h3.objs.size code) fp) rfl rfl rfl rfl j _ s' σ' H' (fun _ _ => False) Ig (stat frj) stj goj) fun r s4 g4 ⟨u, hu, h4⟩ => ⟨u, hu, ?_⟩
        refine thnG g4 h4 fun _ s5 g5 ⟨x, H5, I5, r5, y5, st5, fr5⟩ => ?_
        have I5' := I5.pinned (stat fr5) (T.obj _ _ st5)
        refine thnG g5 ((ht h3.objs.size code _ _ A' fp).run _ s5 σ' H5 x u _ I5' r5 (step x H5 y5)) fun _ s6 g6 ⟨σ6, H6, I6, q6⟩ => ?_
        refine thnG g6 ((hel h3.objs.size code _ _ A' fp rA).run _ s6 σ6 H6 _ I6 q6) fun y s7 g7 ⟨v, H7, I7, r7, ev, q7⟩ => ?_
        subst ev
        refine ⟨r7, σ6, H7, I7.unpinned, q7, T.keep _ _ _ st5 fun b hb o e => (I7.pin (b, o) (List.mem_append_right _ (List.mem_append_right _ (mem_pinsAt hb e)))).1, fun b hb => ?_, g7⟩
        obtain ⟨o, e, d⟩ := T.obj _ _ st5 b hb
        exact (I7.pin (b, o) (List.mem_append_right _ (List.mem_append_right _ (mem_pinsAt hb e)))).2.1
      · obtain ⟨σ', H', Ig, wj, stj, frj, gz⟩ := kd
        rw [hA']
        refine thn (T.done (gcx X { s2 with heap := h3, toks := tk } (upd H2 P (.tbl (ps ++ more))) A' (genv X scope h3.objs.size code) fp) rfl rfl rfl rfl n _ s' σ' H' (fun _ _ => False) Ig (stat frj) stj (stop σ' H' wj)) fun r s4 ⟨e, I4⟩ => ⟨e, σ', H', I4, wj⟩
      · obtain ⟨σ', H', Ig, _⟩ := kd
        have q := (Ig.pin (h'.objs.size, go) (by simp)).1
        rw [← hgo] at q
        exact ⟨⟨_, _, _, q, rfl, rfl, rfl⟩, Ig.nolimit⟩
      · obtain ⟨_, _, _, _, _, _, gz⟩ := kd
        omega
      · obtain ⟨σ', H', Ig, wj, stj, frj, gz⟩ := kd
        exact ⟨σ', H', inv_slp Ig sl, wj, by rw [sl.heap]; exact stj, frj, Nat.le_trans gz sl.size⟩
    have fr0 : ∀ b ∈ fp, upd H2 P (.tbl (ps ++ more)) b = none := fun b hb => (hfp b hb).1.1
    refine call_allG (Kz := Kz) G (fun A9 s9 Q9 E9 kd q => ?_) hr.depth (fun s9 h9 kf keep => ?_) (fun j s9 kd => ?_) ⟨_, _, J0, w0 _ ⟨⟨ps ++ more, upd_same, by rw [← em]; exact ht3⟩, fun b hb => upd_ne hb⟩, st5, fr0, by show _ ≤ (s2.gens.push _).size; rw [Array.size_push]; exact Nat.le_refl _⟩ ?_ fun s9 kz => ?_
    · obtain ⟨_, _, _, _, st9, _⟩ := kd
      exact T.self A9 0 s9 Q9 E9 st9 q
    · obtain ⟨σ', H', Ig, wj⟩ := kf
      exact ⟨n, σ', H', I3.call' (ch := fp) Ig.os (Ig.base.trans (Un.kept keep)) (Ig.hok.kept keep) (bare_set Ig.bare rfl) hch, wj⟩
    · obtain ⟨σ', H', Ig, wj, _⟩ := kd
      exact ⟨j, σ', H', I3.call' (ch := fp) Ig.os Ig.base Ig.hok Ig.bare hch, wj⟩
    · show (s2.gens.push _)[s2.gens.size]? = _
      exact Array.getElem?_push_size
    · obtain ⟨j, σ', H', I9, wj⟩ := kz
      exact ⟨.bl _, H', I9, rfl, fin j σ' H' wj⟩
  cases hf : codeAmong gpos ps.toList with
  | none =>
    refine wpAny_genexprCodeX hcode (cd.code hPs ht0) (cd.tab hPs) hf fun c' h' tk hx hge hlt hco' _ htab' _ => ?_
    obtain ⟨o1, vs, f1, tf, fl, tg, inF, tx, tt, op, _, _, _, _, _, _, _, _, _, htr, _⟩ := hco'
    exact cont _ h' tk _ hx (Nat.le_trans hge (Nat.le_of_lt hlt)) htab'.2 ⟨_, rfl⟩ htr
  | some cv =>
    refine wpAny_genexprCode_hit hcode (cd.code hPs ht0) hf ?_
    exact cont cv s2.heap s2.toks ps (Heap.ExtBut.refl _ _) (Nat.le_refl _) hPs ⟨#[], by simp⟩ ht0
end
end Gx
set_option Elab.async false
set_option linter.all false
set_option maxRecDepth 100000
set_option maxHeartbeats 4000000
/-! len(set(t)), t a tuple of texts, any number of them -/
namespace Sx
open PySem PySem.Spec PyProof.Rows L2
/-- how many are unlike -/
def ndr : List Str → Nat
  | [] => 0
  | x :: r => if x ∈ r then ndr r else ndr r + 1
theorem ndr_le : ∀ l : List Str, ndr l ≤ l.length
  | [] => Nat.le_refl _
  | x :: r => by
    have h := ndr_le r
    rw [ndr, List.length_cons]
    split <;> omega
theorem ndr_eq : ∀ l : List Str, ndr l = l.length ↔ l.Nodup
  | [] => by simp [ndr]
  | x :: r => by
    have h := ndr_le r
    have ih := ndr_eq r
    rw [ndr, List.length_cons, List.nodup_cons]
    by_cases hx : x ∈ r
    · rw [if_pos hx]
      exact ⟨fun e => by omega, fun e => absurd hx e.1⟩
    · rw [if_neg hx]
      exact ⟨fun e => ⟨hx, ih.mp (by omega)⟩, fun e => by rw [ih.mpr e.2]⟩
def nd (l : List Str) : Nat := ndr l.reverse
theorem nd_snoc (l : List Str) (x : Str) : nd (l ++ [x]) = if x ∈ l then nd l else nd l + 1 := by
  unfold nd
  rw [List.reverse_append]
  show ndr (x :: l.reverse) = _
  rw [ndr]
  simp
theorem nd_le (l : List Str) : nd l ≤ l.length := by
  have h := ndr_le l.reverse
  rw [List.length_reverse] at h
  exact h
theorem nd_eq (l : List Str) : nd l = l.length ↔ l.Nodup := by
  have h := ndr_eq l.reverse
  rw [List.length_reverse, (List.reverse_perm l).nodup_iff] at h
  exact h
section
variable {prog : Program} {w : World}
theorem fill {A : Around} {R : Result → Shared → Prop} {I : Addr} {fp wr : List Addr} {G : Array GenState → Array GenState → Prop} {n : Nat} {P : Nat → Value → Prop} {St : Nat → Shared → Prop}
    (walk : WalksS prog w A.in1 I fp wr G n P St) (a : Addr) (out : a ∉ fp) (xs : List Str) (len : xs.length = n) (few : n ≤ 1000) (item : ∀ i v, P i v → ∃ t, v = .str (xs.getD i Str.empty) t) :
    ∀ (k i : Nat) (s : Shared), n - i = k → i ≤ n → St i s → s.heap.SetOf (PySem.strKind prog w) a (fun z => decide (z ∈ xs.take i)) (nd (xs.take i)) →
      (∀ s', Moved (a :: wr) G s s' → s'.heap.SetOf (PySem.strKind prog w) a (fun z => decide (z ∈ xs)) (nd xs) → R (.ok (.ret .none)) s') →
      codeAny (model prog w) A (.builtin "set.update.loop" ⟨[.ref a, .ref I], []⟩) R s := by
  have away : a ∉ wr := fun z => out (walk.sub _ z)
  have more : ∀ b ∈ wr, b ∈ a :: wr := fun b hb => List.mem_cons_of_mem _ hb
  intro k
  induction k with
  | zero =>
    intro i s ek le st have_ want
    obtain rfl : i = n := by omega
    refine codeAny_builtin PyProof.Rows.F.entry_set_update_loop ?_
    rw [Around.under_plainId PyProof.Rows.F.plain_set_update_loop _]
    refine wpAny_bind (m := pyNext (.ref I)) (walk.done s _ _ st fun s' mv => ?_)
    rw [List.take_of_length_le (Nat.le_of_eq len)] at have_
    refine wpAny_pure (want s' (mv.mono more) ?_)
    obtain ⟨o, es, ep, t, ho, rest⟩ := have_
    exact ⟨o, es, ep, t, mv.heap a _ away ho, rest⟩
  | succ k ih =>
    intro i s ek le st have_ want
    have lt : i < n := by omega
    refine codeAny_builtin PyProof.Rows.F.entry_set_update_loop ?_
    rw [Around.under_plainId PyProof.Rows.F.plain_set_update_loop _]
    refine wpAny_bind (m := pyNext (.ref I)) (walk.item i s _ _ lt st fun v s' pv st' mv => ?_)
    obtain ⟨t, rfl⟩ := item i v pv
    have held : s'.heap.SetOf (PySem.strKind prog w) a (fun z => decide (z ∈ xs.take i)) (nd (xs.take i)) := by
      obtain ⟨o, es, ep, tb, ho, rest⟩ := have_
      exact ⟨o, es, ep, tb, mv.heap a _ away ho, rest⟩
    have few2 : nd (xs.take i) + 1 < scanBound := by
      have h1 := nd_le (xs.take i)
      have h2 : (xs.take i).length ≤ xs.length := by rw [List.length_take]; omega
      unfold scanBound
      omega
    refine wpAny_bind (m := holding [Value.str (xs.getD i Str.empty) t] (setAdd a (.str (xs.getD i Str.empty) t))) (wpAny_holding ?_)
    unfold setAdd
    refine wpAny_holding (wpAny_bind ((PySem.strKind prog w).pyHash (k := xs.getD i Str.empty) (strKind_is _ _ _ _) ?_))
    refine wpAny_setAddHashed_of (knd := PySem.strKind prog w) (s := { s' with toks := s'.toks + 1 }) (strKind_is _ _ _ _) rfl held few2 fun h' sb put => ?_
    have tk : xs.take (i + 1) = xs.take i ++ [xs.getD i Str.empty] := by
      rw [List.take_add_one, List.getD_eq_getElem?_getD, List.getElem?_eq_getElem (by omega)]
      rfl
    have put2 : h'.SetOf (PySem.strKind prog w) a (fun z => decide (z ∈ xs.take (i + 1))) (nd (xs.take (i + 1))) := by
      refine PyProof.Rows.SetOf_congr put (fun z => ?_) ?_
      · rw [tk]
        simp [List.mem_append]
      · rw [tk, nd_snoc]
        simp
    refine wpAny_pure ⟨plainId_quiet PyProof.Rows.F.plain_set_update_loop _, ih (i + 1) _ (by omega) lt (walk.frame _ s' _ _ st' (Nat.le_succ _) fun b hb o e => ?_) put2 fun s'' mv2 got => ?_⟩
    · rw [sb.2 b (fun z : b = a => out (by rw [← z]; exact hb))]
      exact e
    · refine want s'' (Moved.trans walk.gtrans ((mv.mono more).then_heap (Nat.le_succ _) fun b o hb e => ?_) mv2) got
      rw [sb.2 b (fun z : b = a => hb (by rw [z]; exact List.mem_cons_self))]
      exact e
end
section
variable {prog : Program} {w : World} {A : Around} {E : Value → Shared → Prop} {s : Shared}
abbrev eset (b : Bool) : Obj := { cls := .type "set", dict := none, data := .set #[] 0 (.fresh 0 0 b) }
set_option maxHeartbeats 6000000 in
theorem call_set_tup {l : Addr} {items : Array Value} {xs : List Str} {Q : Value → Shared → Prop} (hh : A.handled = none) (tup : s.heap.IsTuple l items) (are : PyProof.Rows.StrsAre items.toList xs) (few : xs.length ≤ 1000)
    (h : ∀ (h' : Heap) (tk : Nat), h'.SetOf (PySem.strKind prog w) s.heap.objs.size (fun z => decide (z ∈ xs)) (nd xs) → (∀ b o, b < s.heap.objs.size → s.heap.get? b = some o → h'.get? b = some o) → Q (.ref s.heap.objs.size) { s with heap := h', toks := tk }) :
    wpAny (model prog w) A (call (.type "set") [.ref l]) Q E s := by
  obtain ⟨c, tl, hmro⟩ := PySem.F.called_set.mro
  have hmade := PySem.F.called_set.made
  have hsub := PySem.F.called_set.sub
  refine wpAny_call (codeAny_of_tree (show wpAny _ _ (callAny (.type "set") _) _ _ _ from ?_))
  refine wpAny_pure ⟨Code.quiet_builtin _ (by decide +kernel), codeAny_builtin PySem.F.entry_type_call ?_⟩
  rw [Around.under_plain (weight_type_call_type "set" [.ref l] []) rfl]
  have f1 := PySem.F.called_set.notType
  have f2 := PySem.F.called_set.canCreate
  have f3 := PySem.F.typeCall_set_1 (.ref l)
  repeat (any_goals (first | assumption | wp_step))
  refine codeAny_mono (code_set_new_1 (.ref l) (E := E) (Q₁ := fun v s1 => ∃ b : Bool, v = .ref s.heap.objs.size ∧ s1 = { s with heap := s.heap.push (eset b) }) fun b => ⟨b, rfl, rfl⟩) fun r s1 hr => ?_
  cases r with
  | error e => exact hr
  | ok fl =>
    cases fl with
    | ret v =>
      obtain ⟨b, rfl, rfl⟩ := hr
      have at0 : (s.heap.push (eset b)).get? s.heap.objs.size = some (eset b) := Heap.get?_push_size _ rfl
      have ty0 : Shared.TypeIs { s with heap := s.heap.push (eset b) } (.ref s.heap.objs.size) "set" := ⟨_, at0, rfl⟩
      have f4 := PySem.F.called_set.init.lookup
      have f5 := PySem.F.called_set.init.bind (.ref s.heap.objs.size)
      repeat (any_goals (first | assumption | wp_step))
      refine codeAny_mono (codeAny_call_builtin (R := wants (fun r s2 => r = .none ∧ ∃ h' tk, s2 = { s with heap := h', toks := tk } ∧ h'.SetOf (PySem.strKind prog w) s.heap.objs.size (fun z => decide (z ∈ xs)) (nd xs) ∧ ∀ b o, b < s.heap.objs.size → s.heap.get? b = some o → h'.get? b = some o) E)
        PySem.F.called_set.init.plain PySem.F.entry_set_init (check_set_init_1 ty0 ?_)) fun r2 s2 hr2 => ?_
      · obtain ⟨ol, hol, hcl, nl, hdl⟩ := tup
        obtain ⟨ocls, odict, odata, oslots⟩ := ol
        simp only at hcl hdl
        subst hcl
        subst hdl
        have hol' : (s.heap.push (eset b)).get? l = some { cls := .type "tuple", dict := odict, data := .seq items nl, slots := oslots } := Heap.get?_push_of_some _ hol
        have g1 := PySem.F.sub_tuple_set
        have g2 := PySem.F.sub_tuple_frozenset
        have g3 : (Value.type "tuple" == Value.type "dict") = false := by decide
        have tup1 : (s.heap.push (eset b)).IsTuple l items := ⟨_, hol', rfl, nl, rfl⟩
        unfold Builtin.«set.__init__» noKeywords Builtin.Frozenset.updateFrom
        generalize hPI : pyIter = PI
        wp_walk
        subst hPI
        refine wpAny_pyIter_tuple tup1 (wpAny_bind (wpAny_runValue ?_))
        have lt0 : l < s.heap.objs.size := Heap.lt_size hol
        have hh3 : A.in1.in1.in1.handled = none := by simp [hh]
        have ne1 : l ≠ (s.heap.push (eset b)).objs.size := by
          rw [Heap.size_push]
          exact Nat.ne_of_lt (Nat.lt_succ_of_lt lt0)
        have out1 : s.heap.objs.size ∉ [(s.heap.push (eset b)).objs.size, l] := fun z => by
          rw [Heap.size_push] at z
          rcases List.mem_cons.mp z with z | z
          · exact Nat.ne_of_lt (Nat.lt_succ_self _) z
          · exact Nat.ne_of_gt lt0 (List.mem_singleton.mp z)
        have sz : xs.length = items.size := by rw [← StrsAre.len_eq are, Array.length_toList]
        refine fill ((Walks.tuple hh3 _ l ne1 items).toS) s.heap.objs.size out1 xs sz (by rw [← sz]; exact few) (fun i v hv => SS.strs_at are i v (by rw [Array.getElem?_toList]; exact hv)) (items.size - 0) 0 _ (by omega) (Nat.zero_le _)
          ⟨⟨_, Heap.get?_push_size _ rfl, rfl, rfl⟩, (tup1.push _)⟩ ?start ?fin
        case start =>
          have at1 : ((s.heap.push (eset b)).push { cls := .type "tuple_iterator", data := .fields #[.ref l, .int 0 0] }).get? s.heap.objs.size = some (eset b) := Heap.get?_push_of_some _ at0
          exact PyProof.Rows.SetOf_congr ((PyProof.Rows.setObjOf_fresh (knd := PySem.strKind prog w) b).setOf at1 (by unfold scanBound; omega)) (fun _ => by simp) rfl
        case fin =>
          intro s' mv got
          obtain ⟨h', g', d', tk', os'⟩ := s'
          have eg : g' = s.gens := mv.gens
          have ed : d' = s.drawn := mv.drawn
          have eo : os' = s.os := mv.os
          subst eg
          subst ed
          subst eo
          show wpAny _ _ _ _ _ _
          refine wpAny_pure ?_
          show wpAny _ _ (ret Value.none) _ _ _
          refine wpAny_pure ⟨rfl, h', tk', rfl, got, fun c o hc e => ?_⟩
          refine mv.heap c o (fun z => ?_) (Heap.get?_push_of_some _ (Heap.get?_push_of_some _ e))
          rcases List.mem_cons.mp z with z | z
          · exact Nat.ne_of_lt hc z
          · have z2 := List.mem_singleton.mp z
            rw [Heap.size_push] at z2
            exact Nat.ne_of_lt (Nat.lt_succ_of_lt hc) z2
      · cases r2 with
        | error e => exact hr2
        | ok fl2 =>
          cases fl2 with
          | ret r =>
            obtain ⟨rfl, h', tk, rfl, got, keep⟩ := hr2
            repeat (any_goals (first | assumption | wp_step))
            exact h _ _ got keep
          | _ => exact hr2.elim
    | _ => exact hr.elim
end
section
variable {X : Cx}
def tLenSetT (K : PySem.W.Frag) (ta : TE) : TE := fun σ H Q => ta σ H fun x H1 => ∃ (l : Addr) (xs : List Str), x = .ref l ∧ SqT K H1 l (xs.map V.str) ∧ xs.length ≤ 1000 ∧ Q (.int (nd xs)) H1
theorem pe_lenSetT {a : Expr} {ta : TE} {p p2 q pos : Pos} (hc : X.calm = true) (hg : Gl X "len") (hm : X.mg "len" = none) (hg2 : Gl X "set") (hm2 : X.mg "set" = none) (ha : PE X a ta)
    (na : starEach [a] X.env = (false, eval a X.env) :: starEach [] X.env := by rfl) : PE X (.Call (.Name "len" p) [.Call (.Name "set" p2) [a] [] q] [] pos) (tLenSetT X.K ta) := by
  refine ⟨fun pins s σ H Q I h => ?_⟩
  refine Call_ (ld_blt I hg hm boot_len (PyProof.Rows.callWith_builtin1 (PyProof.Rows.args_cons ?_ rfl) rfl rfl))
  refine Call_ (ld_blt I hg2 hm2 boot_set (PyProof.Rows.callWith_type1 (PyProof.Rows.args_cons (thn (ha.run pins s σ H _ I h) fun v s1 ⟨x, H1, I1, r1, q1⟩ => PyProof.Rows.args_nil ?_) na) na rfl))
  obtain ⟨l, xs, rfl, sq, few, q1⟩ := q1
  cases r1
  obtain ⟨its, r, pl, hz⟩ := I1.tuple sq
  refine call_set_tup (I1.ok.hd hc) pl (by simpa using strsAre_of r) few fun h' tk got keep => PyProof.Rows.args_nil ?_
  obtain ⟨o, es, ep, t, ho, hex, hd, _, _, _, hf, hn⟩ := got
  have I2 : Inv X pins σ H1 { s1 with heap := h', toks := tk } := I1.kept fun b o e => keep b o (Heap.lt_size e) e
  have few2 := nd_le xs
  exact call_len_set ho hex hd hf (by rw [hn]; omega) ⟨.int (nd xs), H1, I2.tok _, ⟨_, by rw [hn]⟩, q1⟩
end
end Sx
set_option Elab.async false
set_option linter.all false
set_option maxRecDepth 100000
set_option maxHeartbeats 4000000
/-! enumerate(t), t a tuple -/
namespace Ex
open PySem PySem.Spec PyProof.Rows L2
open AutoSeq1 (wpAny_loadPart')
abbrev eIt (l : Addr) : Obj := { cls := .type "tuple_iterator", data := .fields #[.ref l, .int 0 0] }
abbrev eEn (i : Addr) : Obj := { cls := .type "enumerate", data := .fields #[.none, .bool false, .ref i, rawInt 0, .none, .none] }
theorem made (l : Addr) (items : Array Value) (n : Nat) (dct : Option Addr) (sl : Array (Option Value)) :
    Meets (Builtin.«enumerate.__new__» ⟨[.type "enumerate", .ref l], []⟩) (fun _ R s => s.heap.get? l = some { cls := .type "tuple", dict := dct, data := .seq items n, slots := sl } ∧
      R (.ok (.ret (.ref (s.heap.push (eIt l)).objs.size))) { s with heap := (s.heap.push (eIt l)).push (eEn s.heap.objs.size) }) :=
  .of_wp fun prog w A R s h => by
    obtain ⟨hp, g, d, tk, os⟩ := s
    obtain ⟨hl, h⟩ := h
    have hsub := sub_enumerate
    have tup : Heap.IsTuple (Shared.heap ⟨hp, g, d, tk, os⟩) l items := ⟨_, hl, rfl, n, rfl⟩
    wp_walk using wpAny_loadPart' hl
    refine wpAny_stack_any fun st => wpAny_pure ?_
    split
    · rename_i c _ _ _ _ _
      cases (c == Value.type "enumerate") <;> (wp_walk using wpAny_loadPart' hl, wpAny_pyIter_tuple tup; exact ⟨_, rfl, h⟩)
    · wp_walk using wpAny_loadPart' hl, wpAny_pyIter_tuple tup
      exact ⟨_, rfl, h⟩
section
variable {prog : Program} {w : World} {A : Around} {E : Value → Shared → Prop} {s : Shared}
theorem call_enumT {l : Addr} {items : Array Value} {Q : Value → Shared → Prop} (tup : s.heap.IsTuple l items)
    (h : ∀ h', IsEnum h' (s.heap.objs.size + 1) s.heap.objs.size 0 .none → h'.IsTupleIter s.heap.objs.size l 0 → (∀ b o, s.heap.get? b = some o → h'.get? b = some o) → Q (.ref (s.heap.objs.size + 1)) { s with heap := h' }) :
    wpAny (model prog w) A (call (.type "enumerate") [.ref l]) Q E s := by
  obtain ⟨⟨c, dct, dt, sl⟩, hl, hc, n, hd⟩ := tup
  obtain rfl : c = .type "tuple" := hc
  obtain rfl : dt = .seq items n := hd
  refine callType_new F.called_enumerate (by decide) (F.typeCall_enumerate_1 _) (F.newCall_enumerate_1 _) (fun obj => F.args_object_init_2 obj _) F.entry_enumerate_new (made l items n dct sl) ⟨hl, ?_⟩
  have sz : (s.heap.push (eIt l)).objs.size = s.heap.objs.size + 1 := Heap.size_push ..
  show _ ∧ _
  rw [sz]
  have en : IsEnum ((s.heap.push (eIt l)).push (eEn s.heap.objs.size)) (s.heap.objs.size + 1) s.heap.objs.size 0 .none := by
    have z := Heap.get?_push_size (s.heap.push (eIt l)) (o := eEn s.heap.objs.size) rfl
    rw [sz] at z
    exact z
  exact ⟨⟨_, en, rfl⟩, h _ en ⟨_, Heap.get?_push_of_some _ (Heap.get?_push_size _ rfl), rfl, rfl⟩ fun b o x => Heap.get?_push_of_some _ (Heap.get?_push_of_some _ x)⟩
end
/-- the tuple at a, each item in a new pair -/
def Itet (K : PySem.W.Frag) (a : Addr) : It :=
  ⟨fun i H => ∃ (xs : List V) (x : V), SqT K H a xs ∧ xs[i]? = some x, fun i H v H' => ∃ T x, v = .ref T ∧ H T = none ∧ H' = upd H T (.tup [.int (i : Nat), x]) ∧ ∀ xs, SqT K H a xs → xs[i]? = some x, fun i H => ∃ xs : List V, SqT K H a xs ∧ xs.length ≤ i⟩
theorem turn_enumT {P : Program} {w : World} {K : PySem.W.Frag} {elts : List Expr} {kk : Nat} {tpos : Pos} (a e it : Addr) :
    Turn P w K (.Tuple elts kk tpos) (Itet K a) [e, it] e (fun i h => (∃ old, IsEnum h e it ((i : Nat) : Int) old) ∧ h.IsTupleIter it a i ∧ e ≠ it ∧ e ≠ a ∧ a ≠ it) where
  mem := by simp
  obj := fun i h st b hb => by
    obtain ⟨⟨old, he⟩, ⟨o, ho, hc, hd⟩, _⟩ := st
    rcases List.mem_cons.mp hb with z | z
    · rw [z]
      exact ⟨_, he, fun v q => nomatch q⟩
    · rw [List.mem_singleton.mp z]
      exact ⟨o, ho, fun v q => by rw [hd] at q; cases q⟩
  keep := fun i h h' st k => let ⟨⟨old, he⟩, hi, hne⟩ := st; ⟨⟨old, k e (by simp) _ he⟩, hi.at fun o q => k it (by simp) o q, hne⟩
  item := by
    intro X hP hw hK hc i pins s σ H E I hf st hg
    subst hP hw hK
    obtain ⟨⟨old, he⟩, hit, hne, hea, hai⟩ := st
    obtain ⟨xs, x, hq, hx⟩ := hg
    obtain ⟨its, rv, p, hz⟩ := I.tuple hq
    obtain ⟨u, hu, ru⟩ := rv.get hx
    have lt1 : e < s.heap.objs.size := Heap.lt_size he
    have lt2 : it < s.heap.objs.size := by
      obtain ⟨_, q, _⟩ := hit
      exact Heap.lt_size q
    have hi : i < its.toArray.size := by
      rw [List.size_toArray, ← rv.length]
      exact (List.getElem?_eq_some_iff.mp hx).1
    refine wpAny_pyNext_enum_itemD (Draws.tuple (A := X.A.in1) (I.ok.hd hc) it a hai its.toArray) he ⟨hit, p⟩ hi hne (by simp [hne, hea]) fun u' h' tk hu' ho hst' hT hsz hk => ?_
    have eu : u' = u := by
      have z : its[i]? = some u' := by simpa using hu'
      rw [hu] at z
      exact (Option.some.inj z).symm
    subst eu
    refine ⟨_, rfl, wpAny_letOwnedTupleGo_enum (s := { s with heap := h', toks := tk + 1 }) ho fun h'' he' sb => ?_⟩
    have hT2 : h''.get? s.heap.objs.size = some { cls := .type "tuple", data := .seq #[.int i tk, u'] } := (sb.2 _ (Nat.ne_of_gt lt1)).trans hT
    have new : ObjOk X.prog X.w (upd H s.heap.objs.size (.tup [.int (i : Nat), x])) h'' s.heap.objs.size (.tup [.int (i : Nat), x]) :=
      ⟨by show 2 ≤ sizeLine; decide, [.int i tk, u'], .cons ⟨_, rfl⟩ (.cons ru .nil), ⟨_, hT2, rfl, _, rfl⟩⟩
    have I1 : Inv X pins σ (upd H s.heap.objs.size (.tup [.int (i : Nat), x])) { s with heap := h'', toks := tk + 1 } :=
      I.turnedNew (ch := [e, it]) (fun b ob hb q => (sb.2 b (fun z => hb (by simp [z]))).trans (hk b ob (fun z => hb (by simp [z])) (fun z => hb (by simp [z])) q)) hf (Nat.le_refl _) new
    refine ⟨.ref s.heap.objs.size, _, I1, rfl, ⟨_, x, rfl, I.hok.fresh (Nat.le_refl _), rfl, fun ys hy => by rw [I.tuple_inj hy hq]; exact hx⟩, ⟨⟨u', ?_⟩, hst'.1.at fun o q => (sb.2 it (Ne.symm hne)).trans q, hne, hea, hai⟩, fun b hb => ?_⟩
    · have e1 : ((i + 1 : Nat) : Int) = (i : Int) + 1 := by omega
      rw [e1]
      exact he'
    · have hb' : b < s.heap.objs.size := by
        rcases List.mem_cons.mp hb with z | z
        · rw [z]
          exact lt1
        · rw [List.mem_singleton.mp z]
          exact lt2
      rw [upd_ne (Nat.ne_of_lt hb')]
      exact (hf b hb).1
  done := by
    intro X hP hw hK hc i pins s σ H E I hf st hg
    subst hP hw hK
    obtain ⟨⟨old, he⟩, hit, hne, hea, hai⟩ := st
    obtain ⟨xs, hq, hx⟩ := hg
    obtain ⟨its, rv, p, hz⟩ := I.tuple hq
    obtain ⟨f0, f1, f2, f3, f4, f5⟩ := hf it (by simp)
    have hl := rv.length
    unfold pyNext
    refine wpAny_bind (wpAny_attempt (wpAny_callSpecial?_slot (name := Str.ofString "__next__") (⟨_, he, rfl⟩ : s.TypeIs (.ref e) "enumerate") F.slot_enumerate_next
      (wpAny_call_entry F.slot_enumerate_next (⟨_, he, rfl⟩ : s.TypeIs (.ref e) "enumerate") F.entry_enumerate_next ?_ (F.args_enumerate_next_1 _))))
    show wpAny _ _ (field (.ref e) 2 >>= _) _ _ _
    refine wpAny_bind (wpAny_field he rfl (x := .ref it) rfl (wpAny_bind ?_))
    refine wpAny_nextOf_tuple_end (I.ok.hd hc) hit p (by simp; omega) fun h' x he' hx' => ?_
    obtain ⟨o, ho, hcl⟩ := hx'
    exact wpAny_bind (wpAny_isInstance (T := "StopIteration") (b := true) ⟨o, ho, hcl⟩ isSubtype_stop (wpAny_pure ⟨rfl, I.turned (t' := s.toks) (fun b o hb q => he' b o hb q) f0 f1 f3 f4 f5⟩))
  self := fun A i s Q E st h => let ⟨⟨_, he⟩, _⟩ := st; wpAny_pyIter_enum he h
def iEnumT (K : PySem.W.Frag) (ta : TA) : TI := fun σ H R => ta σ H fun vs H1 => ∃ a xs, vs = [.ref a] ∧ SqT K H1 a xs ∧ R (Itet K a) H1
theorem pi_enumT {X : Cx} {e : Expr} {ta : TA} {p pos tpos : Pos} {elts : List Expr} {kk : Nat} (hg : Gl X "enumerate") (hm : X.mg "enumerate" = none) (ha : PA X [e] ta) (hs : starEach [e] X.env = [(false, eval e X.env)] := by rfl) :
    PI X (.Tuple elts kk tpos) (.Call (.Name "enumerate" p) [e] [] pos) (iEnumT X.K ta) := by
  refine ⟨fun pins s σ H R I h => ?_⟩
  refine Call_ (ld_blt I hg hm boot_enumerate (PyProof.Rows.callWith_type1 (thn (ha.run pos pins s σ H _ I h) fun us s1 ⟨vs, H1, I1, r1, q1⟩ => ?_) hs rfl))
  obtain ⟨a, xs, ex, hq, q⟩ := q1
  subst ex
  obtain ⟨u, rfl, r⟩ := vals1 r1
  obtain rfl : u = Value.ref a := r
  obtain ⟨its, rv, tup, hz⟩ := I1.tuple hq
  have lta : a < s1.heap.objs.size := by
    obtain ⟨o, ho, _⟩ := tup
    exact Heap.lt_size ho
  refine call_enumT tup fun h' he hit hk => wpAny_pyIter_enum he ?_
  have I2 : Inv X pins σ H1 { s1 with heap := h' } := I1.kept (t' := s1.toks) hk
  refine ⟨s1.heap.objs.size + 1, [s1.heap.objs.size + 1, s1.heap.objs.size], _, _, H1, rfl, I2, turn_enumT a (s1.heap.objs.size + 1) s1.heap.objs.size, ⟨⟨.none, he⟩, hit, Nat.succ_ne_self _, Nat.ne_of_gt (Nat.lt_succ_of_lt lta), Nat.ne_of_lt lta⟩, fun b hb => ?_, q⟩
  have hle : s1.heap.objs.size ≤ b := by
    rcases List.mem_cons.mp hb with z | z
    · rw [z]
      exact Nat.le_add_right _ _
    · rw [List.mem_singleton.mp z]
      exact Nat.le_refl _
  exact I1.fpOk hle (I1.hok.fresh hle)
/-- over a tuple that the body leaves as it is -/
theorem for_enumT {K : PySem.W.Frag} {a : Addr} {xs : List V} {g : TG} {tb : TS} {D : Ends} {σ : L2.St} {H : Hp} (Pv : Nat → L2.St → Hp → Prop) (h0 : Pv 0 σ H) (hl : ∀ i σ H, i ≤ xs.length → Pv i σ H → SqT K H a xs)
    (hs : ∀ i x σ H T, xs[i]? = some x → Pv i σ H → H T = none → g (.ref T) σ (upd H T (.tup [.int (i : Nat), x])) fun σ2 H2 => tb { D with nx := Pv (i + 1), ct := Pv (i + 1), bk := D.nx } σ2 H2) (hd : ∀ σ H, Pv xs.length σ H → D.nx σ H) :
    ∃ W : Nat → Nat → L2.St → Hp → Prop, (∃ m, W 0 m σ H) ∧ ∀ i m σ H, W i m σ H →
      ((Itet K a).stop i H ∧ D.nx σ H) ∨ ((Itet K a).go i H ∧ ∃ N : L2.St → Hp → Prop, (∀ σ' H', N σ' H' → ∃ m', m' < m ∧ W (i + 1) m' σ' H') ∧ ∀ x H', (Itet K a).yld i H x H' → g x σ H' fun σ2 H2 => tb { D with nx := N, ct := N, bk := D.nx } σ2 H2) := by
  refine ⟨fun i m σ H => m = xs.length - i ∧ i ≤ xs.length ∧ Pv i σ H, ⟨xs.length, by simp, Nat.zero_le _, h0⟩, ?_⟩
  rintro i m σ H ⟨rfl, hi, p⟩
  have q := hl i σ H hi p
  by_cases lt : i < xs.length
  · refine .inr ⟨⟨xs, xs[i], q, by simp [lt]⟩, Pv (i + 1), fun σ' H' p' => ⟨xs.length - (i + 1), by omega, rfl, lt, p'⟩, fun x H' y => ?_⟩
    obtain ⟨T, z, rfl, hT, rfl, y⟩ := y
    exact hs i z σ H T (y xs q) p hT
  · obtain rfl : i = xs.length := by omega
    exact .inl ⟨⟨xs, q, Nat.le_refl _⟩, hd σ H p⟩
end Ex
set_option Elab.async false
set_option linter.all false
set_option maxRecDepth 100000
set_option maxHeartbeats 4000000
namespace Cv
open PySem PySem.Spec PyProof.Rows L2
/-! ### tuples cut, joined, repeated: the same object or a new one -/
theorem same_new {H : Hp} {p : Addr} {o : HO} (h : H p = none) : Same H (upd H p o) := fun b x e => by
  rw [upd_ne (ne_of_none e h)]
  exact e
theorem cut_whole {xs : List V} {lo hi : Option Int} (w : HT.sIx xs.length 0 lo = 0 ∧ HT.sIx xs.length xs.length hi = xs.length) : cutV xs lo hi = xs := by
  unfold cutV
  rw [w.1, w.2, List.drop_zero, Nat.sub_zero, List.take_of_length_le (Nat.le_refl _)]
section
variable {X : Cx}
def rSlG (K : PySem.W.Frag) : V → Option Int → Option Int → Hp → VK → Prop := fun x lo hi H Q => ∃ a xs, x = .ref a ∧ SqT K H a xs ∧ ∀ H' p, Same H H' → SqT K H' p (cutV xs lo hi) → Q (.ref p) H'
theorem sl_tupG : SlR X (rSlG X.K) := by
  intro pins s σ H x v vl vu lo hi sl Q I rx hs pl pu h
  obtain ⟨a, xs, rfl, hx, q⟩ := h
  refine sl_tupA pins s σ H _ v vl vu lo hi sl Q I rx hs pl pu ⟨a, xs, rfl, hx, fun w => q H a (Same.refl _) ?_, fun w p np => q _ p (same_new np) (SqT.of upd_same)⟩
  rw [cut_whole w]
  exact hx
def rCatG (K : PySem.W.Frag) : V → V → Hp → VK → Prop := fun x y H Q => ∃ a b xs ys, x = .ref a ∧ y = .ref b ∧ SqT K H a xs ∧ SqT K H b ys ∧ xs.length + ys.length ≤ sizeLine ∧ ∀ H' p, Same H H' → SqT K H' p (xs ++ ys) → Q (.ref p) H'
theorem op_catG : OpR X (binaryOp .Add) (rCatG X.K) := by
  intro pins s σ H x y v u Q I rx ry h
  obtain ⟨a, b, xs, ys, rfl, rfl, hx, hy, l, q⟩ := h
  refine op_catA pins s σ H _ _ v u Q I rx ry ⟨a, b, xs, ys, rfl, rfl, hx, hy, l, fun e => q H b (Same.refl _) ?_, fun _ e => q H a (Same.refl _) ?_, fun _ _ p np => q _ p (same_new np) (SqT.of upd_same)⟩
  · rw [e]
    exact hy
  · rw [e, List.append_nil]
    exact hx
end
/-! ### a comprehension whose list grows -/
/-- at turn i the new list at D is f i, all that stood stands -/
def Grow (H1 : Hp) (D : Addr) (f : Nat → List V) : Nat → Hp → Prop := fun i H => Same H1 H ∧ H D = some (.lst (f i))
theorem grow0 {H1 : Hp} {D : Addr} {f : Nat → List V} (nD : H1 D = none) (f0 : f 0 = []) : Grow H1 D f 0 (upd H1 D (.lst [])) := ⟨same_new nD, by rw [upd_same, f0]⟩
theorem put {H1 H H4 : Hp} {D : Addr} {f : Nat → List V} {i : Nat} {y : V} (nD : H1 D = none) (g : Grow H1 D f i H) (s : Same H H4) (l : (f i).length < sizeLine) (h : f (i + 1) = f i ++ [y]) :
    ∃ acc, H4 D = some (.lst acc) ∧ acc.length < sizeLine ∧ Grow H1 D f (i + 1) (upd H4 D (.lst (acc ++ [y]))) := by
  refine ⟨f i, s _ _ g.2, l, fun b o e => ?_, by rw [upd_same, h]⟩
  rw [upd_ne (ne_of_none e nD)]
  exact s _ _ (g.1 _ _ e)
theorem left {H1 H H4 : Hp} {D : Addr} {f : Nat → List V} {i : Nat} (g : Grow H1 D f i H) (s : Same H H4) (h : f (i + 1) = f i) : Grow H1 D f (i + 1) H4 := ⟨g.1.trans s, by rw [h]; exact s _ _ g.2⟩
/-- the items of l that are so, each told by v -/
def fil {α : Type} (l : List α) (p : α → Bool) (v : α → V) (i : Nat) : List V := ((l.take i).filter p).map v
theorem fil0 {α : Type} {l : List α} {p : α → Bool} {v : α → V} : fil l p v 0 = [] := rfl
theorem fil_len {α : Type} {l : List α} {p : α → Bool} {v : α → V} {i : Nat} : (fil l p v i).length ≤ l.length := by
  unfold fil
  rw [List.length_map]
  refine Nat.le_trans (List.length_filter_le _ _) ?_
  rw [List.length_take]
  exact Nat.min_le_right _ _
theorem fil_yes {α : Type} {l : List α} {p : α → Bool} {v : α → V} {i : Nat} {x : α} (h : l[i]? = some x) (e : p x = true) : fil l p v (i + 1) = fil l p v i ++ [v x] := by
  unfold fil
  rw [List.take_add_one, h, List.filter_append, List.map_append]
  simp [e]
theorem fil_no {α : Type} {l : List α} {p : α → Bool} {v : α → V} {i : Nat} {x : α} (h : l[i]? = some x) (e : p x = false) : fil l p v (i + 1) = fil l p v i := by
  unfold fil
  rw [List.take_add_one, h, List.filter_append, List.map_append]
  simp [e]
theorem fil_all {α : Type} {l : List α} {p : α → Bool} {v : α → V} {n : Nat} (h : l.length ≤ n) : fil l p v n = (l.filter p).map v := by
  unfold fil
  rw [List.take_of_length_le h]
end Cv
set_option Elab.async false
set_option linter.all false
set_option maxRecDepth 100000
set_option maxHeartbeats 4000000
namespace Cv
open PySem PySem.Spec PyProof.Rows L2
def topS (i : Nat) : Stmt := PySem.Challenge.pw_countveil_k01_plans_looked_at.main.body.getD i (.Pass ⟨0, 0, 0, 0⟩)
/-! ### the purse -/
def big : Int := (10 ^ 60) ^ 60
/-- a purse at p, its cells at c, at most T draws so far -/
def Pur (H : Hp) (p c : Addr) (T : Nat) : Prop := ∃ (cs : List Int) (k : Int), H p = some (.lst [.ref c, .int k]) ∧ H c = some (.lst (cs.map V.int)) ∧ 0 < cs.length ∧ cs.length ≤ 63 ∧ (∀ x ∈ cs, 0 ≤ x ∧ x < big) ∧ 0 ≤ k ∧ k ≤ T
/-- all but the purse is as it was -/
def Kp (p c : Addr) (H H' : Hp) : Prop := ∀ a o, a ≠ p → a ≠ c → H a = some o → H' a = some o
theorem Kp.refl {p c : Addr} {H : Hp} : Kp p c H H := fun _ _ _ _ h => h
theorem Kp.trans {p c : Addr} {H H1 H2 : Hp} (x : Kp p c H H1) (y : Kp p c H1 H2) : Kp p c H H2 := fun a o h1 h2 h => y a o h1 h2 (x a o h1 h2 h)
theorem Kp.of {p c : Addr} {H H1 : Hp} (x : Same H H1) : Kp p c H H1 := fun a o _ _ h => x a o h
theorem same_upd {H : Hp} {p : Addr} {o : HO} (h : H p = none) : Same H (upd H p o) := fun b x e => by
  rw [upd_ne (ne_of_none e h)]
  exact e
theorem Pur.ne {H : Hp} {p c : Addr} {T : Nat} (h : Pur H p c T) : p ≠ c := by
  obtain ⟨cs, k, hp, hc, h0, _⟩ := h
  refine ne_of hp hc fun e => ?_
  have e2 := HO.lst.inj e
  cases cs with
  | nil => simp at h0
  | cons x r => simp at e2
theorem Pur.same {H H' : Hp} {p c : Addr} {T : Nat} (h : Pur H p c T) (s : Same H H') : Pur H' p c T := by
  obtain ⟨cs, k, hp, hc, r⟩ := h
  exact ⟨cs, k, s _ _ hp, s _ _ hc, r⟩
theorem Pur.le {H : Hp} {p c : Addr} {T T' : Nat} (h : Pur H p c T) (l : T ≤ T') : Pur H p c T' := by
  obtain ⟨cs, k, hp, hc, h1, h2, h3, h4, h5⟩ := h
  exact ⟨cs, k, hp, hc, h1, h2, h3, h4, by omega⟩
theorem Pur.nep {H : Hp} {p c q : Addr} {T : Nat} (h : Pur H p c T) (n : H q = none) : q ≠ p ∧ q ≠ c := by
  obtain ⟨cs, k, hp, hc, _⟩ := h
  exact ⟨(ne_of_none hp n).symm, (ne_of_none hc n).symm⟩
/-- an object that isn't the purse's stays where the purse is changed -/
theorem Pur.upd {H : Hp} {p c q : Addr} {T : Nat} {o : HO} (h : Pur H p c T) (h1 : q ≠ p) (h2 : q ≠ c) : Pur (upd H q o) p c T := by
  obtain ⟨cs, k, hp, hc, r⟩ := h
  exact ⟨cs, k, by rw [upd_ne h1.symm]; exact hp, by rw [upd_ne h2.symm]; exact hc, r⟩
theorem Kp.upd {H H1 : Hp} {p c q : Addr} {o : HO} (h : Kp p c H H1) (n : H q = none) : Kp p c H (upd H1 q o) := fun a x h1 h2 e => by
  rw [upd_ne (ne_of_none e n)]
  exact h a x h1 h2 e
theorem seL {α : Type} {l : List α} {j : Nat} {x y : α} (h : y ∈ l.set j x) : y = x ∨ y ∈ l := by
  rcases List.mem_or_eq_of_mem_set h with h | h
  · exact .inr h
  · exact .inl h
/-! ### draw -/
theorem ixN_nat' {n j : Nat} (hj : j < n) : ixN n (j : Int) = some j := by
  unfold ixN
  rw [if_pos (by omega), if_pos (by omega)]
  simp
theorem modB {a b : Int} (h : 0 < b) (h2 : b ≤ 2147483647) : -(2 ^ 64) < a % b ∧ a % b < 2 ^ 64 := by
  have h3 := Int.emod_nonneg a (show b ≠ 0 by omega)
  have h4 := Int.emod_lt_of_pos a h
  omega
theorem c1 : (0 : Int) < 2147483629 := by decide
theorem c2 : (0 : Int) < 2147483647 := by decide
theorem c3 : (0 : Int) < 2147483587 := by decide
abbrev sDraw : Stmt := topS 58
theorem scD : FnScope ["_law_purse_here", "_law_out_of", "_law_cells", "_law_went", "_law_where", "_law_cell", "_law_num", "_law_other"] ["_law_purse_here", "_law_out_of"] (defScope sDraw) := ⟨rfl, rfl, rfl, by decide +kernel, rfl, by decide +kernel, by decide +kernel⟩
def spDraw : Sp := fun vs H Q _ => ∃ (p c : Addr) (T : Nat) (n : Int), vs = [.ref p, .int n] ∧ Pur H p c T ∧ T ≤ 1000000000 ∧ 1 ≤ n ∧ n ≤ 1000000000 ∧
  ∀ H' r, 0 ≤ r → r < n → Pur H' p c (T + 1) → Kp p c H H' → Q (.int r) H'
section
variable {P : Program} {w : World} {K : PySem.W.Frag} {mg : Str → Option Value} {base : Heap}
theorem ok_draw {f : Addr} {fd : FuncData} {k : Nat} (F : Fun K "_law_draw" "_law_draw" sDraw f fd) (ml : mg "len" = none) : FnOk P w K mg base CX0 (k + 1) f fd ["_law_purse_here", "_law_out_of"] spDraw := by
  refine F.ok scD (fun vs H Q E h => ?_) (fun cdv A outer s H vs Q E hr h => ?_)
  · obtain ⟨p, c, T, n, rfl, _⟩ := h
    rfl
  · obtain ⟨p, c, T, n, rfl, hP, hT, n1, n2, q⟩ := h
    have hpc := hP.ne
    obtain ⟨cs, g, hp, hc, h0, h63, hb, g0, gT⟩ := hP
    refine ⟨_, pss_cons (ps_asg (pv 0) (pg_lst rfl (pgs_cons (pg_name (i := 2) scD.nd rfl (.inl rfl)) (pgs_cons (pg_name (i := 3) scD.nd rfl (.inl rfl)) pgs_nil))))
      (pss_cons (ps_set (i := 4) scD.nd rfl (.inl rfl) (pe_op op_mod (pv 3) (pe_callB call_len_seq (by rfl) ml PySem.boot_len (pa_cons (pv 2) pa_nil))))
      (pss_cons (ps_set (i := 5) scD.nd rfl (.inl rfl) (pe_ix ix_list (pv 2) (pv 4) (fun _ _ => rfl)))
      (pss_cons (ps_asg (pe_op op_add (pv 3) pe_int) (pg_sub (pv 0) pe_int set_list))
      (pss_cons (ps_if (pt_cmpR op_ge (pv 5) (pe_op op_pow pe_int pe_int) (nomark _))
        (pss_cons (ps_asg (pe_op op_fdivN (pv 5) (pv 1)) (pg_sub (pv 2) (pv 4) set_list)) (pss_one (ps_ret (pe_op op_mod (pv 5) (pv 1))))) pss_nil)
      (pss_cons (ps_set (i := 6) scD.nd rfl (.inl rfl) (pe_op op_mod (pe_op op_add (pe_op op_add (pe_op op_mul (pe_op op_mod (pv 5) pe_int) pe_int) (pe_op op_mul (pe_op op_mul (pv 3) (pv 3)) pe_int)) pe_int) pe_int))
      (pss_cons (ps_set (i := 6) scD.nd rfl (.inl rfl) (pe_op op_mod (pe_op op_mul (pv 6) (pv 6)) pe_int))
      (pss_cons (ps_set (i := 6) scD.nd rfl (.inl rfl) (pe_op op_mod (pe_op op_mul (pv 6) (pv 6)) pe_int))
      (pss_cons (ps_if (pt_cmpR op_gt (pv 1) (pe_op op_pow pe_int pe_int) (nomark _))
        (pss_cons (ps_set (i := 7) scD.nd rfl (.inl rfl) (pe_op op_mod (pe_op op_add (pe_op op_add (pe_op op_mul (pv 6) pe_int) (pe_op op_mul (pv 3) pe_int)) pe_int) pe_int))
          (pss_one (ps_set (i := 6) scD.nd rfl (.inl rfl) (pe_op op_mul (pv 6) (pe_op op_add (pe_op op_mul (pe_op op_mul (pv 7) (pv 7)) (pv 7)) pe_int))))) pss_nil)
      (pss_one (ps_ret (pe_op op_mod (pv 6) (pv 1)))))))))))), ?_⟩
    -- the unpacked purse; where; the cell
    refine ⟨.ref p, rfl, p, _, rfl, SqL.of hp, rfl, _, _, rfl, _, _, rfl, rfl, ?_⟩
    have hl : (0 : Int) < (cs.map V.int).length := by
      rw [List.length_map]
      omega
    refine ⟨.int g, rfl, .ref c, rfl, c, _, rfl, .inl (SqL.of hc), g, _, rfl, rfl, hl, ?_⟩
    have j1 : 0 ≤ g % (cs.map V.int).length := Int.emod_nonneg _ (by omega)
    have j2 : g % (cs.map V.int).length < (cs.map V.int).length := Int.emod_lt_of_pos _ hl
    obtain ⟨j, ej⟩ : ∃ j : Nat, (j : Int) = g % (cs.map V.int).length := ⟨(g % (cs.map V.int).length).toNat, by omega⟩
    rw [← ej] at j1 j2
    have hj : j < cs.length := by
      rw [List.length_map] at j2
      omega
    have hcj : (cs.map V.int)[j]? = some (.int cs[j]) := by
      rw [List.getElem?_map, List.getElem?_eq_getElem hj]
      rfl
    have hx := hb cs[j] (List.getElem_mem hj)
    generalize cs[j] = x at hx hcj
    refine ⟨.ref c, rfl, _, rfl, c, _, _, .int x, rfl, rfl, SqL.of hc, (by rw [← ej]; exact atI_nat hcj), ?_⟩
    -- purse[1] = went + 1
    refine ⟨.int g, rfl, _, _, rfl, rfl, .ref p, rfl, p, _, _, 1, rfl, rfl, hp, rfl, ?_⟩
    have hc1 : (upd H p (.lst [.ref c, .int (g + 1)])) c = some (.lst (cs.map V.int)) := by
      rw [upd_ne hpc.symm]
      exact hc
    have K1 : Kp p c H (upd H p (.lst [.ref c, .int (g + 1)])) := fun a o h1 _ e => by
      rw [upd_ne h1]
      exact e
    have P1 : Pur (upd H p (.lst [.ref c, .int (g + 1)])) p c (T + 1) := ⟨cs, g + 1, upd_same, hc1, h0, h63, hb, by omega, by omega⟩
    -- cell >= 10 ** 18
    refine ⟨.int x, rfl, _, _, rfl, rfl, ⟨by decide, by decide, by decide⟩, _, _, rfl, rfl, _, rfl, ite2 (fun e => ?_) (fun e => ?_)⟩
    · refine ⟨.int x, rfl, .int n, rfl, _, _, rfl, rfl, ⟨by omega, by omega⟩, .ref c, rfl, _, rfl, c, _, _, j, rfl, rfl, hc1, ?_, ?_⟩
      · rw [← ej, List.length_map]
        exact ixN_nat' hj
      · refine ⟨.int x, rfl, .int n, rfl, _, _, rfl, rfl, by omega, ?_⟩
        refine q _ _ (Int.emod_nonneg _ (by omega)) (Int.emod_lt_of_pos _ (by omega)) ⟨cs.set j (x.fdiv n), g + 1, ?_, ?_, ?_, ?_, ?_, by omega, by omega⟩ ?_
        · rw [upd_ne hpc]
          exact upd_same
        · rw [upd_same, List.map_set]
        · rw [List.length_set]
          exact h0
        · rw [List.length_set]
          exact h63
        · intro y hy
          rcases seL hy with rfl | hy
          · rw [Int.fdiv_eq_ediv_of_nonneg _ (by omega)]
            have a1 : 0 ≤ x / n := Int.ediv_nonneg hx.1 (by omega)
            have a2 : x / n ≤ x := Int.ediv_le_self _ hx.1
            exact ⟨a1, by omega⟩
          · exact hb y hy
        · intro a o h1 h2 e
          rw [upd_ne h2]
          exact K1 a o h1 h2 e
    · -- num
      refine ⟨.int x, rfl, _, _, rfl, rfl, c1, _, _, rfl, rfl, .inr ⟨by decide, by decide⟩, .int g, rfl, .int g, rfl, _, _, rfl, rfl, .inl ⟨by omega, by omega⟩, _, _, rfl, rfl, .inr ⟨by decide, by decide⟩, _, _, rfl, rfl, _, _, rfl, rfl, _, _, rfl, rfl, c2, ?_⟩
      refine ⟨_, rfl, _, rfl, _, _, rfl, rfl, .inl (modB c2 (by decide)), _, _, rfl, rfl, c1, ?_⟩
      refine ⟨_, rfl, _, rfl, _, _, rfl, rfl, .inl (modB c1 (by decide)), _, _, rfl, rfl, c3, ?_⟩
      refine ⟨.int n, rfl, _, _, rfl, rfl, ⟨by decide, by decide, by decide⟩, _, _, rfl, rfl, _, rfl, ite2 (fun e => ?_) (fun e => ?_)⟩
      · have z2 := of_decide_eq_true e
        have z3 : (10 : Int) ^ (9 : Int).toNat = 1000000000 := by decide
        omega
      · refine ⟨_, rfl, .int n, rfl, _, _, rfl, rfl, by omega, ?_⟩
        exact q _ _ (Int.emod_nonneg _ (by omega)) (Int.emod_lt_of_pos _ (by omega)) P1 K1
end
end Cv
set_option Elab.async false
set_option linter.all false
set_option maxRecDepth 100000
set_option maxHeartbeats 4000000
namespace Cv
open PySem PySem.Spec PyProof.Rows L2
theorem glen (sep : Str) (ws : List Str) : (Txt.join sep ws).length ≤ (ws.map (·.length)).sum + ws.length * sep.length := by
  show (Builtin.Str.glued sep ws).length ≤ _
  rw [StrLaws.glued_eq_join]
  exact StrLaws.join_length_le sep ws
theorem sum_le {m : Nat} : ∀ {ws : List Str}, (∀ z ∈ ws, z.length ≤ m) → (ws.map (·.length)).sum ≤ ws.length * m
  | [], _ => Nat.zero_le _
  | x :: r, h => by
    have h1 := h x List.mem_cons_self
    have h2 := sum_le (ws := r) fun z hz => h z (List.mem_cons_of_mem _ hz)
    rw [List.map_cons, List.sum_cons, List.length_cons, Nat.succ_mul]
    omega
theorem Kp.seq {K : PySem.W.Frag} {H H' : Hp} {p c a : Addr} {xs : List V} (e : Kp p c H H') (h1 : a ≠ p) (h2 : a ≠ c) (h : SqL K H a xs) : SqL K H' a xs := by
  rcases h with (h | ⟨o, h⟩) | h
  · exact .inl (.inl (e _ _ h1 h2 h))
  · exact .inl (.inr ⟨o, e _ _ h1 h2 h⟩)
  · exact .inr h
theorem op_powW {X : Cx} : OpR X (binaryOp .Pow) (rI (fun i j => 0 ≤ j ∧ (Builtin.Int.intBits i : Int) * j ≤ 2 ^ 27) fun i j => .int (i ^ j.toNat)) := opI fun _ _ _ _ _ _ _ hc q => pow_int hc.1 hc.2 q
theorem mem_at {α : Type} {xs : List α} {i : Int} (h0 : 0 ≤ i) (h1 : i < xs.length) : ∃ v, v ∈ xs ∧ atI xs i = some v := by
  obtain ⟨j, rfl⟩ : ∃ j : Nat, i = (j : Int) := ⟨i.toNat, by omega⟩
  have hj : j < xs.length := by omega
  exact ⟨xs[j], List.getElem_mem hj, atI_nat (List.getElem?_eq_getElem hj)⟩
theorem ints_shaped (cs : List Int) : SeqAt.shaped (.list (cs.map PyData.int)) = true := by
  have h1 : ∀ cs : List Int, PyData.canLayAll0 (cs.map PyData.int) = true := by
    intro cs
    induction cs with
    | nil => simp [PyData.canLayAll0]
    | cons x r ih => simp [PyData.canLayAll0, PyData.canLay0, ih]
  have h2 : ∀ cs : List Int, PyData.depthAll (cs.map PyData.int) ≤ 1 := by
    intro cs
    induction cs with
    | nil => simp [PyData.depthAll]
    | cons x r ih =>
      simp only [List.map_cons, PyData.depthAll, PyData.depth]
      omega
  show (PyData.canLay0 (.list (cs.map PyData.int)) && decide (PyData.depth (.list (cs.map PyData.int)) ≤ 64)) = true
  rw [Bool.and_eq_true]
  refine ⟨by simp only [PyData.canLay0]; exact h1 cs, decide_eq_true ?_⟩
  have h3 := h2 cs
  simp only [PyData.depth]
  omega
theorem ints_dp {K : PySem.W.Frag} {H : Hp} : ∀ cs : List Int, DpAll K H (cs.map V.int) (cs.map PyData.int)
  | [] => .nil
  | x :: r => .cons (.int x) (ints_dp r)
/-! ### the purse is made -/
abbrev sPurse : Stmt := topS 57
theorem scP : FnScope ["_law_script", "_law_cells", "_law_cell"] ["_law_script"] (defScope sPurse) := ⟨rfl, rfl, rfl, by decide +kernel, rfl, by decide +kernel, by decide +kernel⟩
def spPurse (K : PySem.W.Frag) : Sp := fun vs H Q _ => ∃ (a : Addr) (ns : List Int), vs = [.ref a] ∧ SqL K H a (ns.map V.int) ∧
  ∀ H' p c, Same H H' → H p = none → H c = none → Pur H' p c 0 → Q (.ref p) H'
theorem cut63 (xs : List V) : cutV xs none (some 63) = xs.take 63 := by
  unfold cutV
  rw [show HT.sIx xs.length 0 none = 0 from HT.sIx_none _ _, show HT.sIx xs.length xs.length (some 63) = min 63 xs.length from HT.sIx_nat xs.length xs.length 63, List.drop_zero, Nat.sub_zero]
  by_cases h : 63 ≤ xs.length
  · rw [Nat.min_eq_left h]
  · rw [Nat.min_eq_right (by omega), List.take_of_length_le (Nat.le_refl _), List.take_of_length_le (by omega)]
theorem big_pos : (0 : Int) < ((10 : Int) ^ (60 : Int).toNat) ^ (60 : Int).toNat := by decide +kernel
theorem big_eq : ((10 : Int) ^ (60 : Int).toNat) ^ (60 : Int).toNat = big := rfl
theorem eqv_nil : ∀ cs : List Int, PyData.eqv (.list (cs.map PyData.int)) (.list []) = decide (cs = [])
  | [] => by simp [PyData.eqv, PyData.eqvAll]
  | x :: r => by simp [PyData.eqv, PyData.eqvAll]
section
variable {P : Program} {w : World} {K : PySem.W.Frag} {mg : Str → Option Value} {base : Heap}
theorem ok_purse {f : Addr} {fd : FuncData} {k : Nat} (F : Fun K "_law_purse" "_law_purse" sPurse f fd) : FnOk P w K mg base CX0 (k + 1) f fd ["_law_script"] (spPurse K) := by
  refine F.ok scP (fun vs H Q E h => ?_) (fun cdv A outer s H vs Q E hr h => ?_)
  · obtain ⟨a, ns, rfl, _⟩ := h
    rfl
  · obtain ⟨a, ns, rfl, hS, q⟩ := h
    refine ⟨_, pss_cons (ps_setLc (i := 1) (own := [("_law_cell", 2)]) (g := gName 2) (tt := tYes) rfl scP.nd rfl rfl (sw_true rfl rfl rfl (by decide +kernel)) (pi_list (pe_slice sl_list (pv 0) po_none (po_some pe_int)))
        (blkOk_by (own := [("_law_cell", 2)]) (N := ["_law_script", "_law_cells", "_law_cell"]) (sc := defScope sPurse) (by decide +kernel)) (fun _ _ _ _ _ => pg_name (i := 2) scP.nd rfl (Or.inl rfl)) (fun _ _ _ _ _ => pts_nil)
        (fun _ _ _ _ _ => pe_op op_mod (pv 2) (pe_op op_powW (pe_op op_pow pe_int pe_int) pe_int)))
      (pss_cons (ps_if (pt_cmpR (op_eqD hr.units) (pv 1) (pe_lst pa_nil) (nomark _)) (pss_one (ps_set (i := 1) scP.nd rfl (.inl rfl) (pe_lst (pa_cons pe_int pa_nil)))) pss_nil)
      (pss_one (ps_ret (pe_lst (pa_cons (pv 1) (pa_cons pe_int pa_nil)))))), ?_⟩
    refine ⟨.ref a, rfl, 63, rfl, a, _, rfl, hS, fun l nl => ?_⟩
    have f1 : (upd H l (.lst (cutV (ns.map V.int) none (some 63)))) l = some (.lst ((ns.take 63).map V.int)) := by
      rw [upd_same, cut63, List.map_take]
    have s1 : Same H (upd H l (.lst (cutV (ns.map V.int) none (some 63)))) := same_upd nl
    generalize upd H l (.lst (cutV (ns.map V.int) none (some 63))) = H1 at f1 s1 ⊢
    refine ⟨l, rfl, ⟨_, SqL.of f1⟩, fun D nD => ?_⟩
    have nDl : l ≠ D := ne_of_none f1 nD
    have lm : (ns.take 63).length ≤ 63 := by
      rw [List.length_take]
      omega
    generalize ns.take 63 = M at f1 lm
    refine lc_list (K := K) (a := l) (xs := M.map V.int) (fun i H' => Same H H' ∧ H' l = some (.lst (M.map V.int)) ∧ H' D = some (.lst (((M.take i).map (· % big)).map V.int))) ⟨s1.trans (same_upd nD), ?_, ?_⟩ (fun i H' _ h => SqL.of h.2.1) (fun i x H' hx h => ?_) (fun H' h => ?_)
    · rw [upd_ne nDl]
      exact f1
    · rw [upd_same]
      rfl
    · obtain ⟨g1, g2, g3⟩ := h
      have hi : i < M.length := by
        have z := (List.getElem?_eq_some_iff.mp hx).1
        rw [List.length_map] at z
        exact z
      have ex : x = .int M[i] := by
        rw [List.getElem?_map, List.getElem?_eq_getElem hi] at hx
        exact (Option.some.inj hx).symm
      subst ex
      refine ⟨rfl, _, rfl, _, _, rfl, rfl, ⟨by decide, by decide, by decide⟩, _, _, rfl, rfl, ⟨by decide, by decide +kernel⟩, _, _, rfl, rfl, big_pos, _, g3, ?_, ?_, ?_, ?_⟩
      · rw [List.length_map, List.length_map, List.length_take]
        exact Nat.lt_of_le_of_lt (Nat.min_le_left _ _) (small1000 (by omega))
      · exact fun b o e => by
          rw [upd_ne (fun z => by rw [z] at e; have := g1; exact absurd (s1 _ _ e) (by rw [nD]; exact fun z => nomatch z))]
          exact g1 _ _ e
      · rw [upd_ne nDl]
        exact g2
      · rw [upd_same, List.take_add_one, List.getElem?_eq_getElem hi, List.map_append, List.map_append]
        rfl
    · obtain ⟨g1, g2, g3⟩ := h
      rw [List.length_map, List.take_of_length_le (Nat.le_refl _)] at g3
      have hD : H D = none := s1.free nD
      have bm : ∀ x ∈ M.map (· % big), 0 ≤ x ∧ x < big := fun x hx => by
        obtain ⟨y, _, rfl⟩ := List.mem_map.mp hx
        exact ⟨Int.emod_nonneg _ (Int.ne_of_gt big_pos), Int.emod_lt_of_pos _ big_pos⟩
      have lm2 : (M.map (· % big)).length ≤ 63 := by
        rw [List.length_map]
        exact lm
      generalize M.map (· % big) = cs at g3 bm lm2
      refine ⟨.ref D, rfl, Nat.zero_le _, fun e ne => ?_⟩
      have s2 : Same H' (upd H' e (.lst [])) := same_upd ne
      refine ⟨.list (cs.map PyData.int), .list [], .lst (SqL.of (s2 _ _ g3)) (ints_dp cs), .lst (SqL.of upd_same) .nil, ints_shaped cs, ints_shaped [], _, rfl, ite2 (fun z => ?_) (fun z => ?_)⟩
      · refine ⟨by decide, fun c nc => ?_⟩
        refine ⟨_, rfl, (by show 2 ≤ sizeLine; decide), fun p np => ?_⟩
        have s3 := (g1.trans s2).trans ((same_upd nc (o := .lst [.int 0])).trans (same_upd np (o := .lst [.ref c, .int 0])))
        refine q _ p c s3 (((g1.trans s2).trans (same_upd nc)).free np) ((g1.trans s2).free nc) ⟨[0], 0, upd_same, ?_, by decide, by decide, fun x hx => ?_, Int.le_refl _, Int.le_refl _⟩
        · rw [upd_ne (ne_of_none upd_same np)]
          exact upd_same
        · rw [List.mem_singleton.mp hx]
          exact ⟨Int.le_refl _, big_pos⟩
      · rw [eqv_nil] at z
        have z2 : cs ≠ [] := fun y => z (decide_eq_true y)
        refine ⟨_, rfl, (by show 2 ≤ sizeLine; decide), fun p np => ?_⟩
        have s3 := (g1.trans s2).trans (same_upd np (o := .lst [.ref D, .int 0]))
        refine q _ p D s3 ((g1.trans s2).free np) hD ⟨cs, 0, upd_same, (same_upd np) _ _ (s2 _ _ g3), List.length_pos_iff.mpr z2, lm2, bm, Int.le_refl _, Int.le_refl _⟩
end
end Cv
set_option Elab.async false
set_option linter.all false
set_option maxRecDepth 100000
set_option maxHeartbeats 4000000
namespace Cv
open PySem PySem.Spec PyProof.Rows L2
theorem Kp.free {p c D : Addr} {H H' : Hp} (e : Kp p c H H') (h1 : D ≠ p) (h2 : D ≠ c) (h : H' D = none) : H D = none := by
  cases q : H D with
  | none => rfl
  | some o =>
    rw [e D o h1 h2 q] at h
    cases h
/-! ### pick -/
abbrev sPick : Stmt := topS 59
theorem scK : FnScope ["_law_purse_here", "_law_some"] ["_law_purse_here", "_law_some"] (defScope sPick) := ⟨rfl, rfl, rfl, by decide +kernel, rfl, by decide +kernel, by decide +kernel⟩
/-- of a text a sign, of a list an item -/
def spPick (K : PySem.W.Frag) : Sp := fun vs H Q _ => ∃ (p c : Addr) (T : Nat) (x : V), vs = [.ref p, x] ∧ Pur H p c T ∧ T ≤ 1000000000 ∧
  ((∃ z : Str, x = .str z ∧ 0 < z.length ∧ z.length ≤ 1000 ∧ ∀ H' ch, ch ∈ z.cps.toList → Pur H' p c (T + 1) → Kp p c H H' → Q (.str ⟨#[ch]⟩) H') ∨
   (∃ (l : Addr) (xs : List V), x = .ref l ∧ l ≠ p ∧ l ≠ c ∧ SqL K H l xs ∧ 0 < xs.length ∧ xs.length ≤ 1000 ∧ ∀ H' v, v ∈ xs → Pur H' p c (T + 1) → Kp p c H H' → Q v H'))
section
variable {P : Program} {w : World} {K : PySem.W.Frag} {mg : Str → Option Value} {base : Heap}
theorem ok_pick {f fD : Addr} {fd fdD : FuncData} {k : Nat} (F : Fun K "_law_pick" "_law_pick" sPick f fd) (FD : Fun K "_law_draw" "_law_draw" sDraw fD fdD) (bD : Binds K fdD ["_law_purse_here", "_law_out_of"] []) (gD : mg "_law_draw" = some (.ref fD)) (ml : mg "len" = none) :
    FnOk P w K mg base CX0 (k + 2) f fd ["_law_purse_here", "_law_some"] (spPick K) := by
  have GD : FnOk P w K mg base CX0 (k + 1) fD fdD ["_law_purse_here", "_law_out_of"] spDraw := ok_draw FD ml
  refine F.ok scK (fun vs H Q E h => ?_) (fun cdv A outer s H vs Q E hr h => ?_)
  · obtain ⟨p, c, T, x, rfl, _⟩ := h
    rfl
  · obtain ⟨p, c, T, x, rfl, hP, hT, h⟩ := h
    refine ⟨_, pss_one (ps_ret (pe_ix ix_seq (pv 1) (pe_call GD hr (by rfl) gD FD.kp bD .nil pass0 (pa_cons (pv 0) (pa_cons (pe_callB call_len (by rfl) ml PySem.boot_len (pa_cons (pv 1) pa_nil)) pa_nil))) (fun _ _ => rfl))), ?_⟩
    rcases h with ⟨z, rfl, z0, z1, q⟩ | ⟨l, xs, rfl, l1, l2, hl, z0, z1, q⟩
    · have hz : z.length ≤ sizeLine := Nat.le_of_lt (small1000 z1)
      refine ⟨.str z, rfl, .ref p, rfl, .str z, rfl, _, z.length, rfl, ⟨hz, rfl⟩, p, c, T, _, rfl, hP, hT, by omega, by omega, fun H' r r0 r1 hP' hK => ?_⟩
      obtain ⟨ch, hm, ha⟩ := mem_at (xs := z.cps.toList) r0 (by rw [Array.length_toList]; exact r1)
      exact .inr (.inr ⟨z, r, ch, rfl, rfl, hz, ha, q H' ch hm hP' hK⟩)
    · refine ⟨.ref l, rfl, .ref p, rfl, .ref l, rfl, _, xs.length, rfl, .inl ⟨_, hl, rfl⟩, p, c, T, _, rfl, hP, hT, by omega, by omega, fun H' r r0 r1 hP' hK => ?_⟩
      obtain ⟨v, hm, ha⟩ := mem_at (xs := xs) r0 r1
      exact .inl ⟨l, xs, r, v, rfl, rfl, hK.seq l1 l2 hl, ha, q H' v hm hP' hK⟩
end
/-! ### word -/
abbrev sWord : Stmt := topS 60
theorem scW : FnScope ["_law_purse_here", "_law_most", "_law_size", "_law_sign"] ["_law_purse_here", "_law_most"] (defScope sWord) := ⟨rfl, rfl, rfl, by decide +kernel, rfl, by decide +kernel, by decide +kernel⟩
def letters : Str := "aabeknorst"
def spWord : Sp := fun vs H Q _ => ∃ (p c : Addr) (T : Nat) (m : Int), vs = [.ref p, .int m] ∧ Pur H p c T ∧ T ≤ 999999000 ∧ 2 ≤ m ∧ m ≤ 8 ∧
  ∀ H' (z : Str), 1 ≤ z.length → (z.length : Int) ≤ m → (∀ ch ∈ z.cps.toList, ch ∈ letters.cps.toList) → Pur H' p c (T + 10) → Kp p c H H' → Q (.str z) H'
/-- signs put together -/
theorem glued1 : ∀ cs : List Nat, Txt.join (Str.ofString "") (cs.map fun ch => (⟨#[ch]⟩ : Str)) = ⟨cs.toArray⟩ := by
  intro cs
  show Builtin.Str.glued _ _ = _
  rw [StrLaws.glued_eq_join]
  apply TL.ext_tl
  rw [TL.tl_join]
  show TL.joinL [] _ = _
  rw [List.map_map]
  show TL.joinL [] (cs.map fun ch => [ch]) = cs
  induction cs with
  | nil => rfl
  | cons x r ih =>
    cases r with
    | nil => rfl
    | cons y r =>
      show [x] ++ ([] ++ TL.joinL [] ((y :: r).map fun ch => [ch])) = _
      rw [ih]
      rfl
section
variable {P : Program} {w : World} {K : PySem.W.Frag} {mg : Str → Option Value} {base : Heap}
theorem ok_word {f fD fK : Addr} {fd fdD fdK : FuncData} {k : Nat} (F : Fun K "_law_word" "_law_word" sWord f fd) (FD : Fun K "_law_draw" "_law_draw" sDraw fD fdD) (bD : Binds K fdD ["_law_purse_here", "_law_out_of"] []) (gD : mg "_law_draw" = some (.ref fD))
    (FK : Fun K "_law_pick" "_law_pick" sPick fK fdK) (bK : Binds K fdK ["_law_purse_here", "_law_some"] []) (gK : mg "_law_pick" = some (.ref fK)) (ml : mg "len" = none) (mr : mg "range" = none) :
    FnOk P w K mg base CX0 (k + 3) f fd ["_law_purse_here", "_law_most"] spWord := by
  have GD : FnOk P w K mg base CX0 (k + 2) fD fdD ["_law_purse_here", "_law_out_of"] spDraw := ok_draw FD ml
  have GK : FnOk P w K mg base CX0 (k + 2) fK fdK ["_law_purse_here", "_law_some"] (spPick K) := ok_pick FK FD bD gD ml
  refine F.ok scW (fun vs H Q E h => ?_) (fun cdv A outer s H vs Q E hr h => ?_)
  · obtain ⟨p, c, T, x, rfl, _⟩ := h
    rfl
  · obtain ⟨p, c, T, m, rfl, hP, hT, m1, m2, q⟩ := h
    refine ⟨_, pss_cons (ps_set (i := 2) scW.nd rfl (.inl rfl) (pe_op op_add pe_int (pe_call GD hr (by rfl) gD FD.kp bD .nil pass0 (pa_cons (pv 0) (pa_cons (pe_ix ix_list (pe_lst (pa_cons pe_int (pa_cons (pv 1) pa_nil)))
        (pe_call GD hr (by rfl) gD FD.kp bD .nil pass0 (pa_cons (pv 0) (pa_cons pe_int pa_nil))) (fun _ _ => rfl)) pa_nil)))))
      (pss_one (ps_ret (pe_join pe_str (pe_lc (own := [("_law_sign", 3)]) (g := gName 3) (tt := tYes) rfl scW.nd (pi_range1 (by rfl) mr (pa_cons (pv 2) pa_nil))
        (blkOk_by (own := [("_law_sign", 3)]) (N := ["_law_purse_here", "_law_most", "_law_size", "_law_sign"]) (sc := defScope sWord) (by decide +kernel)) (fun _ _ _ _ _ => pg_name (i := 3) scW.nd rfl (Or.inl rfl)) (fun _ _ _ _ _ => pts_nil)
        (fun _ _ _ _ _ => pe_call GK hr (by rfl) gK FK.kp bK .nil pass0 (pa_cons (pv 0) (pa_cons pe_str pa_nil))))))), ?_⟩
    refine ⟨.ref p, rfl, _, rfl, (by show 2 ≤ sizeLine; decide), fun l nl => ?_⟩
    have hP1 := hP.same (same_upd nl (o := .lst [.int 2, .int m]))
    obtain ⟨nlp, nlc⟩ := hP.nep nl
    refine ⟨.ref p, rfl, p, c, T, 2, rfl, hP1, by omega, by decide, by decide, fun H1 r r0 r1 hP2 hK1 => ?_⟩
    have hl1 := hK1 l _ nlp nlc upd_same
    have k1 : Kp p c H H1 := (Kp.of (same_upd nl)).trans hK1
    obtain ⟨n, ha, n1, n2⟩ : ∃ n : Int, atI ([.int 2, .int m] : List V) r = some (.int n) ∧ 2 ≤ n ∧ n ≤ m := by
      have hr' : r = 0 ∨ r = 1 := by omega
      rcases hr' with rfl | rfl
      · exact ⟨2, rfl, by omega, m1⟩
      · exact ⟨m, rfl, m1, Int.le_refl _⟩
    refine ⟨l, _, r, .int n, rfl, rfl, SqL.of hl1, ha, p, c, T + 1, n, rfl, hP2, by omega, by omega, by omega, fun H2 g g0 g1 hP3 hK2 => ?_⟩
    refine ⟨1, g, rfl, rfl, ?_⟩
    refine ⟨⟨_, rfl⟩, _, rfl, 1 + g, rfl, by omega, by omega, fun D nD => ?_⟩
    have k2 : Kp p c H H2 := k1.trans hK2
    obtain ⟨dp, dc⟩ := hP3.nep nD
    have nD0 := k2.free dp dc nD
    refine lc_range (lo := 0) (n := (1 + g).toNat) (fun i H' => ∃ chs : List Nat, chs.length = i ∧ (∀ ch ∈ chs, ch ∈ letters.cps.toList) ∧ H' D = some (.lst ((chs.map fun ch => (⟨#[ch]⟩ : Str)).map V.str)) ∧ Pur H' p c (T + 2 + i) ∧ Kp p c H H')
      ⟨[], rfl, (fun _ h => absurd h List.not_mem_nil), upd_same, hP3.upd dp dc, k2.upd nD0⟩ (fun i H' hi h => ?_) (fun H' h => ?_)
    · obtain ⟨chs, rfl, hc, hD, hPi, hKi⟩ := h
      refine ⟨rfl, .ref p, rfl, p, c, _, _, rfl, hPi, by omega, .inl ⟨letters, rfl, by decide, by decide, fun H3 ch hm hP4 hK4 => ?_⟩⟩
      refine ⟨_, hK4 D _ dp dc hD, ?_, chs ++ [ch], by simp, ?_, ?_, (hP4.le (by omega)).upd dp dc, (hKi.trans hK4).upd nD0⟩
      · rw [List.length_map, List.length_map]
        exact small1000 (by omega)
      · intro x hx
        rcases List.mem_append.mp hx with hx | hx
        · exact hc x hx
        · rw [List.mem_singleton.mp hx]
          exact hm
      · rw [upd_same, List.map_append, List.map_append]
        rfl
    · obtain ⟨chs, hl, hc, hD, hPi, hKi⟩ := h
      refine ⟨_, D, chs.map fun ch => (⟨#[ch]⟩ : Str), rfl, rfl, .inl (SqL.of hD), ?_, ?_⟩
      · have e1 : ((chs.map fun ch => (⟨#[ch]⟩ : Str)).map (·.length)).sum ≤ (chs.map fun ch => (⟨#[ch]⟩ : Str)).length * 1 := sum_le fun z hz => by
          obtain ⟨ch, _, rfl⟩ := List.mem_map.mp hz
          exact Nat.le_refl _
        have e2 : (Str.ofString "").length = 0 := by decide
        rw [e2]
        rw [List.length_map] at e1
        omega
      · rw [glued1]
        have hz : (⟨chs.toArray⟩ : Str).length = chs.length := by simp [Str.length]
        exact q _ _ (by rw [hz]; omega) (by rw [hz]; omega) (by simpa using hc) (hPi.le (by omega)) hKi
end
end Cv
set_option Elab.async false
set_option linter.all false
set_option maxRecDepth 100000
set_option maxHeartbeats 4000000
namespace Cv
open PySem PySem.Spec PyProof.Rows L2
theorem flat_strs (ws : List Str) : (ws.map V.str).all flatV = true := by
  rw [List.all_map]
  exact List.all_eq_true.mpr fun _ _ => rfl
theorem inV_str (z : Str) (ws : List Str) : inV (.str z) (ws.map V.str) = decide (z ∈ ws) := by
  unfold inV
  rw [List.any_map, Bool.eq_iff_iff, List.any_eq_true, decide_eq_true_iff]
  constructor
  · rintro ⟨y, hy, h⟩
    have e : y = z := by
      have h2 : eqV (.str y) (.str z) = true := h
      simpa [eqV] using h2
    rw [← e]
    exact hy
  · intro h
    refine ⟨z, h, ?_⟩
    show eqV (.str z) (.str z) = true
    simp [eqV]
def isL (c : Nat) : Bool := decide (97 ≤ c) && decide (c ≤ 122)
def Lets (z : Str) : Prop := ∀ ch ∈ z.cps.toList, isL ch = true
theorem letters_l : ∀ ch ∈ letters.cps.toList, isL ch = true := by decide +kernel
/-- a tuple of two to six short texts -/
def CodesL (H : Hp) (t : Addr) (ws : List Str) : Prop := H t = some (.tup (ws.map V.str)) ∧ ws.length ≤ 8 ∧ ∀ z ∈ ws, z.length ≤ 4 ∧ Lets z
/-- a sort: a name and such a tuple -/
def SortL (H : Hp) (v : V) : Prop := ∃ (a b : Addr) (n : Str) (ws : List Str), v = .ref a ∧ H a = some (.tup [.str n, .ref b]) ∧ CodesL H b ws ∧ n.length ≤ 8 ∧ Lets n
theorem tup_ne {H : Hp} {p c a : Addr} {T : Nat} {xs : List V} (h : Pur H p c T) (e : H a = some (.tup xs)) : a ≠ p ∧ a ≠ c := by
  obtain ⟨cs, k, hp, hc, _⟩ := h
  exact ⟨ne_of e hp (fun z => nomatch z), ne_of e hc (fun z => nomatch z)⟩
theorem SortL.keep {H H' : Hp} {p c : Addr} {T : Nat} {v : V} (h : SortL H v) (hP : Pur H p c T) (k : Kp p c H H') : SortL H' v := by
  obtain ⟨a, b, n, ws, e, ha, ⟨hb, h1, h2⟩, h3⟩ := h
  obtain ⟨a1, a2⟩ := tup_ne hP ha
  obtain ⟨b1, b2⟩ := tup_ne hP hb
  exact ⟨a, b, n, ws, e, k _ _ a1 a2 ha, ⟨k _ _ b1 b2 hb, h1, h2⟩, h3⟩
/-! ### codes -/
abbrev sCodes : Stmt := topS 61
theorem scC : FnScope ["_law_purse_here", "_law_found", "_law_k", "_law_word_here"] ["_law_purse_here"] (defScope sCodes) := ⟨rfl, rfl, rfl, by decide +kernel, rfl, by decide +kernel, by decide +kernel⟩
def spCodes : Sp := fun vs H Q _ => ∃ (p c : Addr) (T : Nat), vs = [.ref p] ∧ Pur H p c T ∧ T ≤ 999990000 ∧
  ∀ H' t ws, H t = none → CodesL H' t ws → Pur H' p c (T + 100) → Kp p c H H' → Q (.ref t) H'
section
variable {P : Program} {w : World} {K : PySem.W.Frag} {mg : Str → Option Value} {base : Heap}
/-- where the draws' defs stand -/
structure Dr (K : PySem.W.Frag) (mg : Str → Option Value) (fD fK fW : Addr) (fdD fdK fdW : FuncData) : Prop where
  FD : Fun K "_law_draw" "_law_draw" sDraw fD fdD
  bD : Binds K fdD ["_law_purse_here", "_law_out_of"] []
  gD : mg "_law_draw" = some (.ref fD)
  FK : Fun K "_law_pick" "_law_pick" sPick fK fdK
  bK : Binds K fdK ["_law_purse_here", "_law_some"] []
  gK : mg "_law_pick" = some (.ref fK)
  FW : Fun K "_law_word" "_law_word" sWord fW fdW
  bW : Binds K fdW ["_law_purse_here", "_law_most"] []
  gW : mg "_law_word" = some (.ref fW)
  ml : mg "len" = none
  mr : mg "range" = none
  mm : mg "max" = none
  mt : mg "tuple" = none
theorem ok_codes {f fD fK fW : Addr} {fd fdD fdK fdW : FuncData} {k : Nat} (F : Fun K "_law_codes" "_law_codes" sCodes f fd) (d : Dr K mg fD fK fW fdD fdK fdW) :
    FnOk P w K mg base CX0 (k + 4) f fd ["_law_purse_here"] spCodes := by
  have GD : FnOk P w K mg base CX0 (k + 3) fD fdD ["_law_purse_here", "_law_out_of"] spDraw := ok_draw d.FD d.ml
  have GW : FnOk P w K mg base CX0 (k + 3) fW fdW ["_law_purse_here", "_law_most"] spWord := ok_word d.FW d.FD d.bD d.gD d.FK d.bK d.gK d.ml d.mr
  refine F.ok scC (fun vs H Q E h => ?_) (fun cdv A outer s H vs Q E hr h => ?_)
  · obtain ⟨p, c, T, rfl, _⟩ := h
    rfl
  · obtain ⟨p, c, T, rfl, hP, hT, q⟩ := h
    refine ⟨_, pss_cons (ps_set (i := 1) scC.nd rfl (.inl rfl) (pe_lst pa_nil))
      (pss_cons (ps_for PassesOwn.never rfl (pi_range1 (by rfl) d.mr (pa_cons (pe_op op_add pe_int (pe_call GD hr (by rfl) d.gD d.FD.kp d.bD .nil pass0 (pa_cons (pv 0) (pa_cons pe_int pa_nil)))) pa_nil)) (pg_name (i := 2) scC.nd rfl (.inl rfl))
        (pss_cons (ps_set (i := 3) scC.nd rfl (.inl rfl) (pe_call GW hr (by rfl) d.gW d.FW.kp d.bW .nil pass0 (pa_cons (pv 0) (pa_cons pe_int pa_nil))))
          (pss_one (ps_if (pt_cmpR op_notIn_seq (pv 3) (pv 1) rfl)
            (pss_one (ps_expr (pe_bm PySem.F.plainAttrs_list PySem.F.slot_list_append PySem.F.type_list_append mt_append (pv 1) (pa_cons (pv 3) pa_nil)))) pss_nil))))
      (pss_one (ps_ret (pe_callTy call_tuple_of (by rfl) d.mt (by decide +kernel) (pa_cons (pe_op op_cat (pv 1)
        (pe_slice sl_list (pe_lst (pa_cons pe_str (pa_cons pe_str pa_nil))) po_none (po_some (pe_callB (call_max2 rfl) (by rfl) d.mm (by decide +kernel)
          (pa_cons pe_int (pa_cons (pe_op op_sub pe_int (pe_callB call_len_seq (by rfl) d.ml PySem.boot_len (pa_cons (pv 1) pa_nil))) pa_nil)))))) pa_nil))))), ?_⟩
    refine ⟨Nat.zero_le _, fun o no => ?_⟩
    obtain ⟨op', oc⟩ := hP.nep no
    have hP1 := hP.same (same_upd no (o := .lst []))
    refine ⟨.ref p, rfl, p, c, T, 5, rfl, hP1, by omega, by decide, by decide, fun H1 r r0 r1 hP2 hK1 => ?_⟩
    have k1 : Kp p c H H1 := (Kp.of (same_upd no)).trans hK1
    have ho1 := hK1 o _ op' oc upd_same
    refine ⟨2, r, rfl, rfl, 2 + r, rfl, by omega, by omega, ?_⟩
    refine for_range (lo := 0) (n := (2 + r).toNat) (fun i σ H' => ∃ y2 y3 ws, σ = [some (.ref p), some (.ref o), y2, y3] ∧ H' o = some (.lst (ws.map V.str)) ∧ ws.length ≤ i ∧ (∀ z ∈ ws, z.length ≤ 4 ∧ Lets z) ∧ Pur H' p c (T + 1 + 10 * i) ∧ Kp p c H H')
      ⟨none, none, [], rfl, ho1, Nat.le_refl _, (fun _ h => absurd h List.not_mem_nil), hP2, k1⟩ (fun i σ H' hi h => ?_) (fun σ H' h => ?_)
    · obtain ⟨y2, y3, ws, rfl, ho, hw, hl, hPi, hKi⟩ := h
      refine ⟨.ref p, rfl, p, c, _, 4, rfl, hPi, by omega, by decide, by decide, fun H2 z z1 z2 z3 hP3 hK2 => ?_⟩
      have ho2 := hK2 o _ op' oc ho
      refine ⟨.str z, rfl, .ref o, rfl, o, _, rfl, .inl (SqL.of ho2), rfl, flat_strs ws, _, rfl, ite2 (fun e => ?_) (fun e => ?_)⟩
      · refine ⟨.ref o, rfl, .inl ⟨rfl, _, SqL.of ho2⟩, .str z, rfl, o, _, _, rfl, rfl, ho2, ?_, ?_⟩
        · rw [List.length_map]
          exact small1000 (by omega)
        · refine ⟨_, _, ws ++ [z], rfl, ?_, ?_, ?_, (hP3.le (by omega)).upd op' oc, (hKi.trans hK2).upd no⟩
          · rw [upd_same, List.map_append]
            rfl
          · rw [List.length_append]
            show ws.length + 1 ≤ i + 1
            omega
          · intro y hy
            rcases List.mem_append.mp hy with hy | hy
            · exact hl y hy
            · rw [List.mem_singleton.mp hy]
              exact ⟨by omega, fun ch hc => letters_l ch (z3 ch hc)⟩
      · exact ⟨_, _, ws, rfl, ho2, by omega, hl, hP3.le (by omega), hKi.trans hK2⟩
    · obtain ⟨y2, y3, ws, rfl, ho, hw, hl, hPi, hKi⟩ := h
      refine ⟨.ref o, rfl, (by show 2 ≤ sizeLine; decide), fun l nl => ?_⟩
      have ho1 := (same_upd nl (o := .lst [.str "zz", .str "z"])) _ _ ho
      refine ⟨.ref o, rfl, o, _, rfl, .inl (SqL.of ho1), 2, _, rfl, rfl, 0, _, rfl, _, rfl, l, _, rfl, SqL.of upd_same, fun r nr => ?_⟩
      have hcut : ∃ us : List Str, cutV [V.str "zz", V.str "z"] none (some (if 2 - ((ws.map V.str).length : Int) > 0 then 2 - ((ws.map V.str).length : Int) else 0)) = us.map V.str ∧ us.length ≤ 2 ∧ ∀ z ∈ us, z.length ≤ 4 ∧ Lets z := by
        have e0 : ([V.str "zz", V.str "z"] : List V) = ([("zz" : Str), "z"] : List Str).map V.str := rfl
        unfold cutV
        rw [e0, ← List.map_drop, ← List.map_take]
        refine ⟨_, rfl, ?_, fun z hz => ?_⟩
        · rw [List.length_take, List.length_drop]
          exact Nat.le_trans (Nat.min_le_right _ _) (Nat.sub_le _ _)
        · have h1 : z ∈ ([("zz" : Str), "z"] : List Str) := List.mem_of_mem_drop (List.mem_of_mem_take hz)
          rcases List.mem_cons.mp h1 with rfl | h1
          · exact ⟨by decide, by unfold Lets; decide⟩
          · rw [List.mem_singleton.mp h1]
            exact ⟨by decide, by unfold Lets; decide⟩
      obtain ⟨us, eu, u1, u2⟩ := hcut
      have ho2 := (same_upd nr (o := .lst (cutV [V.str "zz", V.str "z"] none (some (if 2 - ((ws.map V.str).length : Int) > 0 then 2 - ((ws.map V.str).length : Int) else 0))))) _ _ ho1
      refine ⟨o, r, _, us.map V.str, rfl, rfl, ho2, by rw [upd_same, eu], ?_, fun v nv => ?_⟩
      · rw [List.length_map, List.length_map]
        exact Nat.le_of_lt (small1000 (by omega))
      · refine ⟨v, _, rfl, .inl ⟨SqL.of upd_same, fun t nt => ?_⟩⟩
        have s4 := ((same_upd nl (o := .lst [.str "zz", .str "z"])).trans (same_upd nr (o := .lst (cutV [V.str "zz", V.str "z"] none (some (if 2 - ((ws.map V.str).length : Int) > 0 then 2 - ((ws.map V.str).length : Int) else 0)))))).trans (same_upd nv (o := .lst (ws.map V.str ++ us.map V.str)))
        have hP4 := hPi.same (s4.trans (same_upd nt (o := .tup (ws.map V.str ++ us.map V.str))))
        have hK4 := hKi.trans (Kp.of (s4.trans (same_upd nt (o := .tup (ws.map V.str ++ us.map V.str)))))
        obtain ⟨t1, t2⟩ := (hPi.same s4).nep nt
        refine q _ t (ws ++ us) ((hKi.trans (Kp.of s4)).free t1 t2 nt) ⟨?_, ?_, ?_⟩ (hP4.le (by omega)) hK4
        · rw [upd_same, List.map_append]
        · rw [List.length_append]
          omega
        · intro y hy
          rcases List.mem_append.mp hy with hy | hy
          · exact hl y hy
          · exact u2 y hy
end
end Cv
set_option Elab.async false
set_option linter.all false
set_option maxRecDepth 100000
set_option maxHeartbeats 4000000
namespace Cv
open PySem PySem.Spec PyProof.Rows L2
theorem SortL.same {H H' : Hp} {v : V} (h : SortL H v) (k : Same H H') : SortL H' v := by
  obtain ⟨a, b, n, ws, e, ha, ⟨hb, h1, h2⟩, h3⟩ := h
  exact ⟨a, b, n, ws, e, k _ _ ha, ⟨k _ _ hb, h1, h2⟩, h3⟩
/-! ### plan -/
abbrev sPlan : Stmt := topS 62
abbrev nPlan : List Str := ["_law_purse_here", "_law_least", "_law_found", "_law_k", "_law_name", "_law_other", "_law_codes_here"]
theorem scN : FnScope nPlan ["_law_purse_here", "_law_least"] (defScope sPlan) := ⟨rfl, rfl, rfl, by decide +kernel, rfl, by decide +kernel, by decide +kernel⟩
def spPlan : Sp := fun vs H Q _ => ∃ (p c : Addr) (T : Nat), vs = [.ref p, .int 1] ∧ Pur H p c T ∧ T ≤ 999900000 ∧
  ∀ H' t xs, H t = none → H' t = some (.tup xs) → 1 ≤ xs.length → xs.length ≤ 4 → (∀ v ∈ xs, SortL H' v) → Pur H' p c (T + 1000) → Kp p c H H' → Q (.ref t) H'
section
variable {P : Program} {w : World} {K : PySem.W.Frag} {mg : Str → Option Value} {base : Heap}
theorem ok_plan {f fD fK fW fC : Addr} {fd fdD fdK fdW fdC : FuncData} {k : Nat} (F : Fun K "_law_plan" "_law_plan" sPlan f fd) (d : Dr K mg fD fK fW fdD fdK fdW) (FC : Fun K "_law_codes" "_law_codes" sCodes fC fdC) (bC : Binds K fdC ["_law_purse_here"] []) (gC : mg "_law_codes" = some (.ref fC)) :
    FnOk P w K mg base CX0 (k + 5) f fd ["_law_purse_here", "_law_least"] spPlan := by
  have GD : FnOk P w K mg base CX0 (k + 4) fD fdD ["_law_purse_here", "_law_out_of"] spDraw := ok_draw d.FD d.ml
  have GW : FnOk P w K mg base CX0 (k + 4) fW fdW ["_law_purse_here", "_law_most"] spWord := ok_word d.FW d.FD d.bD d.gD d.FK d.bK d.gK d.ml d.mr
  have GC : FnOk P w K mg base CX0 (k + 4) fC fdC ["_law_purse_here"] spCodes := ok_codes FC d
  refine F.ok scN (fun vs H Q E h => ?_) (fun cdv A outer s H vs Q E hr h => ?_)
  · obtain ⟨p, c, T, rfl, _⟩ := h
    rfl
  · obtain ⟨p, c, T, rfl, hP, hT, q⟩ := h
    refine ⟨_, pss_cons (ps_set (i := 2) scN.nd rfl (.inl rfl) (pe_lst pa_nil))
      (pss_cons (ps_for PassesOwn.never rfl (pi_range1 (by rfl) d.mr (pa_cons (pe_op op_add (pv 1) (pe_call GD hr (by rfl) d.gD d.FD.kp d.bD .nil pass0 (pa_cons (pv 0) (pa_cons (pe_op op_sub pe_int (pv 1)) pa_nil)))) pa_nil)) (pg_name (i := 3) scN.nd rfl (.inl rfl))
        (pss_cons (ps_set (i := 4) scN.nd rfl (.inl rfl) (pe_call GW hr (by rfl) d.gW d.FW.kp d.bW .nil pass0 (pa_cons (pv 0) (pa_cons pe_int pa_nil))))
        (pss_cons (ps_if (pt_cmpR op_in_seq (pv 4) (pe_lc (own := [("_law_other", 5), ("_law_codes_here", 6)]) (g := gTup K 2 (gCons (gName 5) (gCons (gName 6) gNil))) (tt := tYes) rfl scN.nd (pi_list (pv 2))
            (blkOk_by (own := [("_law_other", 5), ("_law_codes_here", 6)]) (N := nPlan) (sc := defScope sPlan) (by decide +kernel)) (fun _ _ _ _ _ => pg_tup rfl (pgs_cons (pg_name (i := 5) scN.nd rfl (Or.inl rfl)) (pgs_cons (pg_name (i := 6) scN.nd rfl (Or.inl rfl)) pgs_nil)))
            (fun _ _ _ _ _ => pts_nil) (fun _ _ _ _ _ => pv 5)) rfl)
          (pss_one (ps_set (i := 4) scN.nd rfl (.inl rfl) (pe_ix ix_list (pe_lst (pa_cons pe_str (pa_cons pe_str (pa_cons pe_str (pa_cons pe_str pa_nil))))) (pv 3) (fun _ _ => rfl)))) pss_nil)
        (pss_one (ps_expr (pe_bm PySem.F.plainAttrs_list PySem.F.slot_list_append PySem.F.type_list_append mt_append (pv 2) (pa_cons (pe_tup (pa_cons (pv 4) (pa_cons (pe_call GC hr (by rfl) gC FC.kp bC .nil pass0 (pa_cons (pv 0) pa_nil)) pa_nil))) pa_nil)))))))
      (pss_one (ps_ret (pe_callTy call_tuple_of (by rfl) d.mt (by decide +kernel) (pa_cons (pv 2) pa_nil))))), ?_⟩
    refine ⟨Nat.zero_le _, fun o no => ?_⟩
    obtain ⟨op', oc⟩ := hP.nep no
    have hP1 := hP.same (same_upd no (o := .lst []))
    refine ⟨.int 1, rfl, .ref p, rfl, .int 1, rfl, 5, 1, rfl, rfl, p, c, T, 4, rfl, hP1, by omega, by decide, by decide, fun H1 r r0 r1 hP2 hK1 => ?_⟩
    have k1 : Kp p c H H1 := (Kp.of (same_upd no)).trans hK1
    have ho1 := hK1 o _ op' oc upd_same
    refine ⟨1, r, rfl, rfl, 1 + r, rfl, by omega, by omega, ?_⟩
    refine for_range (lo := 0) (n := (1 + r).toNat) (fun i σ H' => ∃ y3 y4 y5 y6 xs, σ = [some (.ref p), some (.int 1), some (.ref o), y3, y4, y5, y6] ∧ H' o = some (.lst xs) ∧ xs.length = i ∧ (∀ v ∈ xs, SortL H' v) ∧ Pur H' p c (T + 1 + 110 * i) ∧ Kp p c H H')
      ⟨none, none, none, none, [], rfl, ho1, rfl, (fun _ h => absurd h List.not_mem_nil), hP2, k1⟩ (fun i σ H' hi h => ?_) (fun σ H' h => ?_)
    · obtain ⟨y3, y4, y5, y6, xs, rfl, ho, hw, hl, hPi, hKi⟩ := h
      refine ⟨.ref p, rfl, p, c, _, 8, rfl, hPi, by omega, by decide, by decide, fun H2 z z1 z2 z3 hP3 hK2 => ?_⟩
      have ho2 := hK2 o _ op' oc ho
      have hl2 : ∀ v ∈ xs, SortL H2 v := fun v hv => (hl v hv).keep hPi hK2
      refine ⟨.str z, rfl, .ref o, rfl, o, rfl, ⟨_, SqL.of ho2⟩, fun D nD => ?_⟩
      have nDo : o ≠ D := ne_of_none ho2 nD
      refine lc_list (K := K) (a := o) (xs := xs) (fun j H3 => ∃ ns : List Str, Same H2 H3 ∧ H3 D = some (.lst (ns.map V.str)) ∧ ns.length = j) ⟨[], same_upd nD, upd_same, rfl⟩ (fun j H3 _ h => ?_) (fun j x H3 hx h => ?_) (fun H3 h => ?_)
      · obtain ⟨ns, h1, h2, h3⟩ := h
        exact SqL.of (h1 _ _ ho2)
      · obtain ⟨ns, h1, h2, h3⟩ := h
        obtain ⟨a, b, n, ws, rfl, ha, hb, hn⟩ := hl2 x (List.mem_of_getElem? hx)
        have hj : j < xs.length := (List.getElem?_eq_some_iff.mp hx).1
        refine ⟨a, _, rfl, SqT.of (h1 _ _ ha), rfl, _, _, rfl, _, _, rfl, rfl, rfl, .str n, rfl, _, h2, ?_, ns ++ [n], ?_, ?_, ?_⟩
        · rw [List.length_map]
          exact small1000 (by omega)
        · intro b' o' e
          rw [upd_ne (ne_of_none e nD)]
          exact h1 _ _ e
        · rw [upd_same, List.map_append]
          rfl
        · rw [List.length_append]
          show ns.length + 1 = j + 1
          omega
      · obtain ⟨ns, h1, h2, h3⟩ := h
        refine ⟨D, _, rfl, .inl (SqL.of h2), rfl, flat_strs ns, _, rfl, ?_⟩
        refine ite2 (fun e => ?_) (fun e => ?_)
        · refine ⟨(by show 4 ≤ sizeLine; decide), fun l nl => ?_⟩
          obtain ⟨zn, hat, hzn⟩ : ∃ zn : Str, atI [V.str "za", V.str "zb", V.str "zc", V.str "zd"] (0 + (i : Nat) : Int) = some (.str zn) ∧ zn.length ≤ 8 ∧ Lets zn := by
            have hi4 : i < 4 := by omega
            match i, hi4 with
            | 0, _ => exact ⟨"za", rfl, by decide, by unfold Lets; decide⟩
            | 1, _ => exact ⟨"zb", rfl, by decide, by unfold Lets; decide⟩
            | 2, _ => exact ⟨"zc", rfl, by decide, by unfold Lets; decide⟩
            | 3, _ => exact ⟨"zd", rfl, by decide, by unfold Lets; decide⟩
          refine ⟨_, rfl, l, _, _, .str zn, rfl, rfl, SqL.of upd_same, hat, ?_⟩
          have s24 : Same H2 _ := h1.trans (same_upd nl (o := .lst [V.str "za", V.str "zb", V.str "zc", V.str "zd"]))
          have hP4 := hP3.same s24
          have ho4 := s24 _ _ ho2
          refine ⟨.ref o, rfl, .inl ⟨rfl, _, SqL.of ho4⟩, .str zn, rfl, .ref p, rfl, p, c, _, rfl, hP4, by omega, fun H5 t ws nt hC hP5 hK5 => ?_⟩
          refine ⟨(by show 2 ≤ sizeLine; decide), fun u nu => ?_⟩
          have ho5 := hK5 o _ op' oc ho4
          have s56 : Same H5 (upd H5 u (.tup [.str zn, .ref t])) := same_upd nu
          have nuo : o ≠ u := ne_of_none ho5 nu
          refine ⟨o, _, _, rfl, rfl, s56 _ _ ho5, ?_, ?_⟩
          · exact small1000 (by omega)
          · have k5 : Kp p c H H5 := (hKi.trans hK2).trans ((Kp.of s24).trans hK5)
            obtain ⟨u1, u2⟩ := hP5.nep nu
            have P6 : Pur (upd H5 u (.tup [.str zn, .ref t])) p c (T + 1 + 110 * (i + 1)) := (hP5.same s56).le (by omega)
            have keepS : ∀ {v : V} {H9 : Hp} {xs' : List V}, H9 o = some (.lst xs) → SortL H9 v → SortL (upd H9 o (.lst xs')) v := fun {v H9 xs'} e9 h => by
              obtain ⟨a, b, n, ws', e, ha, ⟨hb, h1', h2'⟩, h3'⟩ := h
              exact ⟨a, b, n, ws', e, by rw [upd_ne (ne_of ha e9 (fun z => nomatch z))]; exact ha, ⟨by rw [upd_ne (ne_of hb e9 (fun z => nomatch z))]; exact hb, h1', h2'⟩, h3'⟩
            refine ⟨_, _, _, _, xs ++ [.ref u], rfl, upd_same, ?_, ?_, P6.upd op' oc, (k5.trans (Kp.of s56)).upd no⟩
            · rw [List.length_append]
              show xs.length + 1 = i + 1
              omega
            · intro v hv
              refine keepS (s56 _ _ ho5) ?_
              rcases List.mem_append.mp hv with hv | hv
              · exact ((((hl2 v hv).same s24).keep hP4 hK5).same s56)
              · rw [List.mem_singleton.mp hv]
                exact ⟨u, t, zn, ws, rfl, upd_same, ⟨s56 _ _ hC.1, hC.2.1, hC.2.2⟩, hzn⟩
        · have s24 : Same H2 _ := h1
          have hP4 := hP3.same s24
          have ho4 := s24 _ _ ho2
          refine ⟨.ref o, rfl, .inl ⟨rfl, _, SqL.of ho4⟩, .str z, rfl, .ref p, rfl, p, c, _, rfl, hP4, by omega, fun H5 t ws nt hC hP5 hK5 => ?_⟩
          refine ⟨(by show 2 ≤ sizeLine; decide), fun u nu => ?_⟩
          have ho5 := hK5 o _ op' oc ho4
          have s56 : Same H5 (upd H5 u (.tup [.str z, .ref t])) := same_upd nu
          have nuo : o ≠ u := ne_of_none ho5 nu
          refine ⟨o, _, _, rfl, rfl, s56 _ _ ho5, ?_, ?_⟩
          · exact small1000 (by omega)
          · have k5 : Kp p c H H5 := (hKi.trans hK2).trans ((Kp.of s24).trans hK5)
            obtain ⟨u1, u2⟩ := hP5.nep nu
            have P6 : Pur (upd H5 u (.tup [.str z, .ref t])) p c (T + 1 + 110 * (i + 1)) := (hP5.same s56).le (by omega)
            have keepS : ∀ {v : V} {H9 : Hp} {xs' : List V}, H9 o = some (.lst xs) → SortL H9 v → SortL (upd H9 o (.lst xs')) v := fun {v H9 xs'} e9 h => by
              obtain ⟨a, b, n, ws', e, ha, ⟨hb, h1', h2'⟩, h3'⟩ := h
              exact ⟨a, b, n, ws', e, by rw [upd_ne (ne_of ha e9 (fun z => nomatch z))]; exact ha, ⟨by rw [upd_ne (ne_of hb e9 (fun z => nomatch z))]; exact hb, h1', h2'⟩, h3'⟩
            refine ⟨_, _, _, _, xs ++ [.ref u], rfl, upd_same, ?_, ?_, P6.upd op' oc, (k5.trans (Kp.of s56)).upd no⟩
            · rw [List.length_append]
              show xs.length + 1 = i + 1
              omega
            · intro v hv
              refine keepS (s56 _ _ ho5) ?_
              rcases List.mem_append.mp hv with hv | hv
              · exact ((((hl2 v hv).same s24).keep hP4 hK5).same s56)
              · rw [List.mem_singleton.mp hv]
                exact ⟨u, t, z, ws, rfl, upd_same, ⟨s56 _ _ hC.1, hC.2.1, hC.2.2⟩, by omega, fun ch hc => letters_l ch (z3 ch hc)⟩
    · obtain ⟨y3, y4, y5, y6, xs, rfl, ho, hw, hl, hPi, hKi⟩ := h
      refine ⟨.ref o, rfl, o, _, rfl, .inl ⟨SqL.of ho, fun t nt => ?_⟩⟩
      obtain ⟨t1, t2⟩ := hPi.nep nt
      exact q _ t xs (hKi.free t1 t2 nt) upd_same (by omega) (by omega) (fun v hv => (hl v hv).same (same_upd nt)) ((hPi.same (same_upd nt)).le (by omega)) (hKi.trans (Kp.of (same_upd nt)))
end
end Cv
set_option Elab.async false
set_option linter.all false
set_option maxRecDepth 100000
set_option maxHeartbeats 4000000
namespace Cv
open PySem PySem.Spec PyProof.Rows L2
/-! ### small data -/
mutual
/-- how long a thing is when shown, at most -/
def wt : PyData → Nat
  | .none => 4
  | .bool _ => 5
  | .int _ => 8
  | .str z => 10 * z.length + 2
  | .list ds => 3 + wts ds
  | .tuple ds => 3 + wts ds
  | .dict _ => 0
def wts : List PyData → Nat
  | [] => 0
  | d :: r => wt d + 2 + wts r
end
mutual
/-- no dicts, small numbers, plain signs -/
def pl : PyData → Bool
  | .none => true
  | .bool _ => true
  | .int i => decide (0 ≤ i) && decide (i ≤ 1000000)
  | .str z => z.cps.toList.all fun ch => decide (ch < 1000)
  | .list ds => pls ds
  | .tuple ds => pls ds
  | .dict _ => false
def pls : List PyData → Bool
  | [] => true
  | d :: r => pl d && pls r
end
theorem int_len {i : Int} (h0 : 0 ≤ i) (h1 : i ≤ 1000000) : (Str.ofString (toString i)).length ≤ 8 ∧ i.natAbs.log2 < 1920 := by
  refine ⟨toString_length_le h0 (by decide) (by omega), ?_⟩
  by_cases e : i.natAbs = 0
  · rw [e]
    decide
  · have h2 : i.natAbs < 2 ^ 20 := by omega
    have h3 := (Nat.log2_lt e).mpr h2
    omega
mutual
theorem shows : ∀ d : PyData, pl d = true → d.showable = true ∧ d.hasDict = false ∧ d.shown.length ≤ wt d ∧ 5 * d.depth ≤ wt d + 5
  | .none, _ => ⟨rfl, rfl, by decide, by simp only [PyData.depth]; omega⟩
  | .bool b, _ => by
    refine ⟨rfl, rfl, ?_, by simp only [PyData.depth]; omega⟩
    cases b <;> decide
  | .int i, h => by
    have h' : (decide (0 ≤ i) && decide (i ≤ 1000000)) = true := by simpa only [pl] using h
    rw [Bool.and_eq_true, decide_eq_true_iff, decide_eq_true_iff] at h'
    obtain ⟨a1, a2⟩ := int_len h'.1 h'.2
    refine ⟨by simp only [PyData.showable, decide_eq_true_iff]; exact a2, rfl, ?_, by simp only [PyData.depth]; omega⟩
    simp only [PyData.shown, wt]
    exact a1
  | .str z, h => by
    refine ⟨rfl, rfl, ?_, by simp only [PyData.depth]; omega⟩
    simp only [PyData.shown, wt]
    refine StrLaws.reprText_len z fun ch hc => ?_
    have h2 : (z.cps.toList.all fun ch => decide (ch < 1000)) = true := by simpa only [pl] using h
    have h3 := of_decide_eq_true (List.all_eq_true.mp h2 ch hc)
    have e : (16 : Nat) ^ 8 = 4294967296 := by decide
    omega
  | .list ds, h => by
    obtain ⟨h1, h2, h3, h4, h5⟩ := showsAll ds (by simpa only [pl] using h)
    have t := listText_len_le (PyData.shownAll ds)
    refine ⟨by simp only [PyData.showable]; exact h1, by simp only [PyData.hasDict]; exact h2, ?_, ?_⟩
    · simp only [PyData.shown, wt]
      omega
    · simp only [PyData.depth, wt]
      omega
  | .tuple ds, h => by
    obtain ⟨h1, h2, h3, h4, h5⟩ := showsAll ds (by simpa only [pl] using h)
    have t := tupleText_len_le (PyData.shownAll ds)
    refine ⟨by simp only [PyData.showable]; exact h1, by simp only [PyData.hasDict]; exact h2, ?_, ?_⟩
    · simp only [PyData.shown, wt]
      omega
    · simp only [PyData.depth, wt]
      omega
  | .dict _, h => absurd (show false = true by simpa only [pl] using h) Bool.false_ne_true
theorem showsAll : ∀ ds : List PyData, pls ds = true → PyData.showableAll ds = true ∧ PyData.hasDictAll ds = false ∧ ((PyData.shownAll ds).map (·.length)).sum + 2 * (PyData.shownAll ds).length ≤ wts ds ∧ 5 * PyData.depthAll ds ≤ wts ds + 3 ∧ (PyData.shownAll ds).length = ds.length
  | [], _ => by simp [PyData.showableAll, PyData.hasDictAll, PyData.shownAll, PyData.depthAll, wts]
  | d :: r, h => by
    have h' : pl d = true ∧ pls r = true := by simpa [pls] using h
    obtain ⟨a1, a2, a3, a4⟩ := shows d h'.1
    obtain ⟨b1, b2, b3, b4, b5⟩ := showsAll r h'.2
    refine ⟨by simp only [PyData.showableAll, a1, b1, Bool.and_self], by simp only [PyData.hasDictAll, a2, b2, Bool.or_self], ?_, ?_, by simp only [PyData.shownAll, List.length_cons, b5]⟩
    · simp only [PyData.shownAll, List.map_cons, List.sum_cons, List.length_cons, wts]
      omega
    · simp only [PyData.depthAll, wts]
      omega
end
theorem wt_mem {d : PyData} : ∀ {ds : List PyData}, d ∈ ds → wt d + 2 ≤ wts ds
  | x :: r, h => by
    rw [wts]
    rcases List.mem_cons.mp h with e | h
    · rw [e]
      omega
    · have := wt_mem h
      omega
theorem pl_mem {d : PyData} : ∀ {ds : List PyData}, pls ds = true → d ∈ ds → pl d = true
  | x :: r, hp, h => by
    have h' : pl x = true ∧ pls r = true := by simpa [pls] using hp
    rcases List.mem_cons.mp h with e | h
    · rw [e]
      exact h'.1
    · exact pl_mem h'.2 h
theorem pls_of : ∀ {ds : List PyData}, (∀ d ∈ ds, pl d = true) → pls ds = true
  | [], _ => rfl
  | x :: r, h => by
    rw [pls, h x List.mem_cons_self, pls_of fun d hd => h d (List.mem_cons_of_mem _ hd)]
    rfl
theorem wts_of {n : Nat} : ∀ {ds : List PyData}, (∀ d ∈ ds, wt d ≤ n) → wts ds ≤ ds.length * (n + 2)
  | [], _ => by simp [wts]
  | x :: r, h => by
    have h1 := h x List.mem_cons_self
    have h2 := wts_of fun d hd => h d (List.mem_cons_of_mem _ hd)
    rw [wts, List.length_cons, Nat.add_mul]
    omega
/-! ### what a plan is -/
def isWordD (m : Nat) : PyData → Bool
  | .str z => decide (1 ≤ z.length) && (decide (z.length ≤ m) && z.cps.toList.all isL)
  | _ => false
def strOf : PyData → Str
  | .str z => z
  | _ => ""
def unlikeD (cs : List PyData) : Bool := cs.all (isWordD 4) && decide ((cs.map strOf).Nodup)
def isSortD : PyData → Bool
  | .tuple [n, .tuple cs] => isWordD 8 n && (decide (2 ≤ cs.length) && (decide (cs.length ≤ 6) && unlikeD cs))
  | _ => false
def firstK (n : Nat) (p : Nat → Bool) : Option Nat := (List.range n).find? p
def nameOf : PyData → Str
  | .tuple (n :: _) => strOf n
  | _ => ""
def twiceAt (ns : List Str) (k : Nat) : Bool := decide (ns.getD k "" ∈ ns.take k)
def notSort (ds : List PyData) (k : Nat) : Bool := !isSortD (ds.getD k .none)
def wrongDs (ds : List PyData) : PyData := if 1 ≤ ds.length ∧ ds.length ≤ 4 then
    (match firstK ds.length (notSort ds) with
    | some k => .tuple [.str "sort", .int k]
    | none => (match firstK ds.length (twiceAt (ds.map nameOf)) with
      | some k => .tuple [.str "twice", .int k]
      | none => .none)) else .tuple [.str "plan"]
def wrongD : PyData → PyData
  | .tuple ds => wrongDs ds
  | _ => .tuple [.str "plan"]
theorem word_str {m : Nat} {d : PyData} (h : isWordD m d = true) : ∃ z : Str, d = .str z ∧ 1 ≤ z.length ∧ z.length ≤ m ∧ Lets z := by
  cases d with
  | str z =>
    have h' : (decide (1 ≤ z.length) && (decide (z.length ≤ m) && z.cps.toList.all isL)) = true := h
    rw [Bool.and_eq_true, Bool.and_eq_true, decide_eq_true_iff, decide_eq_true_iff] at h'
    exact ⟨z, rfl, h'.1, h'.2.1, fun ch hc => List.all_eq_true.mp h'.2.2 ch hc⟩
  | _ => cases h
theorem words_strs {m : Nat} : ∀ {ds : List PyData}, ds.all (isWordD m) = true → ds = (ds.map strOf).map PyData.str
  | [], _ => rfl
  | d :: r, h => by
    have h' : isWordD m d = true ∧ r.all (isWordD m) = true := by simpa using h
    obtain ⟨z, e, _⟩ := word_str h'.1
    rw [List.map_cons, List.map_cons, ← words_strs h'.2, e]
    rfl
theorem sort_of {d : PyData} (h : isSortD d = true) : ∃ (z : Str) (cs : List Str), d = .tuple [.str z, .tuple (cs.map PyData.str)] ∧ z.length ≤ 8 ∧ Lets z ∧ 2 ≤ cs.length ∧ cs.length ≤ 6 ∧ (∀ c ∈ cs, c.length ≤ 4 ∧ Lets c) := by
  unfold isSortD at h
  split at h
  · rename_i n cs
    rw [Bool.and_eq_true, Bool.and_eq_true, Bool.and_eq_true, decide_eq_true_iff, decide_eq_true_iff] at h
    obtain ⟨h1, h2, h3, h4⟩ := h
    obtain ⟨z, rfl, _, z1, z2⟩ := word_str h1
    unfold unlikeD at h4
    rw [Bool.and_eq_true] at h4
    have e := words_strs h4.1
    refine ⟨z, cs.map strOf, by rw [← e], z1, z2, by rw [List.length_map]; exact h2, by rw [List.length_map]; exact h3, fun c hc => ?_⟩
    obtain ⟨d, hd, rfl⟩ := List.mem_map.mp hc
    obtain ⟨y, rfl, _, y1, y2⟩ := word_str (List.all_eq_true.mp h4.1 d hd)
    exact ⟨y1, y2⟩
  · cases h
/-- what stays when tables grow and new things are laid -/
def Ky (H H' : Hp) : Prop := ∀ a o, (∀ ps, o ≠ HO.tbl ps) → H a = some o → H' a = some o
theorem Ky.refl {H : Hp} : Ky H H := fun _ _ _ h => h
theorem Ky.trans {H H1 H2 : Hp} (x : Ky H H1) (y : Ky H1 H2) : Ky H H2 := fun a o n h => y a o n (x a o n h)
theorem Ky.of {H H1 : Hp} (x : Same H H1) : Ky H H1 := fun a o _ h => x a o h
theorem Ky.sqT {K : PySem.W.Frag} {H H' : Hp} {a : Addr} {xs : List V} (k : Ky H H') (h : SqT K H a xs) : SqT K H' a xs := by
  rcases h with (h | ⟨o, h⟩) | h
  · exact .inl (.inl (k a _ (fun _ z => nomatch z) h))
  · exact .inl (.inr ⟨o, k a _ (fun _ z => nomatch z) h⟩)
  · exact .inr h
theorem Ky.sqL {K : PySem.W.Frag} {H H' : Hp} {a : Addr} {xs : List V} (k : Ky H H') (h : SqL K H a xs) : SqL K H' a xs := by
  rcases h with (h | ⟨o, h⟩) | h
  · exact .inl (.inl (k a _ (fun _ z => nomatch z) h))
  · exact .inl (.inr ⟨o, k a _ (fun _ z => nomatch z) h⟩)
  · exact .inr h
mutual
theorem Ky.dp {K : PySem.W.Frag} {H H' : Hp} (k : Ky H H') : ∀ (d : PyData) (v : V), Dp K H v d → Dp K H' v d
  | .none, _, h => by cases h; exact .non
  | .bool b, _, h => by cases h; exact .bl b
  | .int i, _, h => by cases h; exact .int i
  | .str z, _, h => by cases h; exact .str z
  | .list ds, _, h => by
    cases h with
    | lst a b => exact .lst (k.sqL a) (Ky.dpAll k ds _ b)
  | .tuple ds, _, h => by
    cases h with
    | tup a b => exact .tup (k.sqT a) (Ky.dpAll k ds _ b)
  | .dict _, _, h => by cases h
theorem Ky.dpAll {K : PySem.W.Frag} {H H' : Hp} (k : Ky H H') : ∀ (ds : List PyData) (vs : List V), DpAll K H vs ds → DpAll K H' vs ds
  | [], _, h => by cases h; exact .nil
  | d :: ds, _, h => by
    cases h with
    | cons a b => exact .cons (Ky.dp k d _ a) (Ky.dpAll k ds _ b)
end
theorem dpAll_len {K : PySem.W.Frag} {H : Hp} : ∀ {ds : List PyData} {vs : List V}, DpAll K H vs ds → vs.length = ds.length
  | [], _, h => by cases h; rfl
  | d :: ds, _, h => by
    cases h with
    | cons a b => rw [List.length_cons, List.length_cons, dpAll_len b]
theorem dpAll_get {K : PySem.W.Frag} {H : Hp} : ∀ {ds : List PyData} {vs : List V} {i : Nat} {v : V}, DpAll K H vs ds → vs[i]? = some v → ∃ d, ds[i]? = some d ∧ Dp K H v d
  | [], _, i, v, h, e => by
    cases h
    simp at e
  | d :: ds, _, 0, v, h, e => by
    cases h with
    | cons a b =>
      simp at e
      subst e
      exact ⟨d, rfl, a⟩
  | d :: ds, _, i + 1, v, h, e => by
    cases h with
    | cons a b =>
      rw [List.getElem?_cons_succ] at e
      obtain ⟨d', h1, h2⟩ := dpAll_get b e
      exact ⟨d', by rw [List.getElem?_cons_succ]; exact h1, h2⟩
theorem dpAll_mem {K : PySem.W.Frag} {H : Hp} {ds : List PyData} {vs : List V} {v : V} (h : DpAll K H vs ds) (hv : v ∈ vs) : ∃ d, d ∈ ds ∧ Dp K H v d := by
  obtain ⟨i, hi, e⟩ := List.mem_iff_getElem.mp hv
  obtain ⟨d, hd, r⟩ := dpAll_get h (show vs[i]? = some v by rw [List.getElem?_eq_getElem hi, e])
  exact ⟨d, List.mem_of_getElem? hd, r⟩
/-- a value that stands for small data -/
def Good (K : PySem.W.Frag) (n : Nat) (v : V) (H : Hp) : Prop := ∃ d, Dp K H v d ∧ pl d = true ∧ wt d ≤ n
theorem Good.ky {K : PySem.W.Frag} {n : Nat} {v : V} {H H' : Hp} (h : Good K n v H) (k : Ky H H') : Good K n v H' := by
  obtain ⟨d, h1, h2⟩ := h
  exact ⟨d, k.dp d v h1, h2⟩
theorem Good.le {K : PySem.W.Frag} {n m : Nat} {v : V} {H : Hp} (h : Good K n v H) (l : n ≤ m) : Good K m v H := by
  obtain ⟨d, h1, h2, h3⟩ := h
  exact ⟨d, h1, h2, by omega⟩
theorem goods {K : PySem.W.Frag} {n : Nat} {H : Hp} : ∀ {xs : List V}, (∀ x ∈ xs, Good K n x H) → ∃ ds, DpAll K H xs ds ∧ pls ds = true ∧ wts ds ≤ xs.length * (n + 2)
  | [], _ => ⟨[], .nil, rfl, by simp [wts]⟩
  | x :: r, h => by
    obtain ⟨d, h1, h2, h3⟩ := h x List.mem_cons_self
    obtain ⟨ds, g1, g2, g3⟩ := goods fun y hy => h y (List.mem_cons_of_mem _ hy)
    refine ⟨d :: ds, .cons h1 g1, by rw [pls, h2, g2]; rfl, ?_⟩
    rw [wts, List.length_cons, Nat.add_mul]
    omega
theorem good_tup {K : PySem.W.Frag} {n m : Nat} {H : Hp} {a : Addr} {xs : List V} (ha : SqT K H a xs) (h : ∀ x ∈ xs, Good K n x H) (l : 3 + xs.length * (n + 2) ≤ m) : Good K m (.ref a) H := by
  obtain ⟨ds, g1, g2, g3⟩ := goods h
  exact ⟨.tuple ds, .tup ha g1, by rw [pl]; exact g2, by rw [wt]; omega⟩
theorem good_lst {K : PySem.W.Frag} {n m : Nat} {H : Hp} {a : Addr} {xs : List V} (ha : SqL K H a xs) (h : ∀ x ∈ xs, Good K n x H) (l : 3 + xs.length * (n + 2) ≤ m) : Good K m (.ref a) H := by
  obtain ⟨ds, g1, g2, g3⟩ := goods h
  exact ⟨.list ds, .lst ha g1, by rw [pl]; exact g2, by rw [wt]; omega⟩
theorem lets_pl {z : Str} (h : Lets z) : pl (.str z) = true := by
  rw [pl, List.all_eq_true]
  intro ch hc
  have := h ch hc
  unfold isL at this
  rw [Bool.and_eq_true, decide_eq_true_iff, decide_eq_true_iff] at this
  exact decide_eq_true (by omega)
/-- a list's own first that is so -/
theorem firstK_none {n : Nat} {p : Nat → Bool} (h : ∀ k, k < n → p k = false) : firstK n p = none := by
  unfold firstK
  rw [List.find?_eq_none]
  intro k hk
  rw [h k (List.mem_range.mp hk)]
  exact Bool.false_ne_true
theorem firstK_some {n k : Nat} {p : Nat → Bool} (hk : k < n) (hp : p k = true) (h : ∀ j, j < k → p j = false) : firstK n p = some k := by
  unfold firstK
  rw [List.find?_range_eq_some]
  exact ⟨hp, List.mem_range.mpr hk, fun j hj => by rw [h j hj]; rfl⟩
theorem firstK_filter (n : Nat) (p : Nat → Bool) : firstK n p = ((List.range n).filter p).head? := List.head?_filter.symm
end Cv
set_option Elab.async false
set_option linter.all false
set_option maxRecDepth 100000
set_option maxHeartbeats 4000000
namespace Cv
open PySem PySem.Spec PyProof.Rows L2
/-! ### a def whose own code object is known -/
structure FunC (K : PySem.W.Frag) (x qual : Str) (st : Stmt) (f c : Addr) (fd : FuncData) : Prop where
  ex : ∃ (oc : Value) (od : Option Addr) (kV doc pm : Value) (an : Option Addr) (ct : Value) (osl : Array (Option Value)),
    fd = PySem.W.fnOf x qual (defArgs st) (defBody st) (defScope st) .none kV doc pm an (.ref c) ct ∧ K.lookup f = some ⟨oc, od, .func fd, osl⟩ ∧ PySem.W.codeIn K (.ref c) qual = true
  kp : PySem.W.keepIn K (.ref f) = true
section
variable {P : Program} {w : World} {K : PySem.W.Frag} {mg : Str → Option Value} {base : Heap}
theorem FunC.ok {x qual : Str} {st : Stmt} {f c : Addr} {fd : FuncData} {N ps : List Str} {k : Nat} {sp : Sp} (F : FunC K x qual st f c fd) (S : FnScope N ps (defScope st)) (len : ∀ vs H Q E, sp vs H Q E → vs.length = ps.length)
    (body : ∀ (A : Around) (outer : List Env) (s : Shared) (H : Hp) (vs : List V) (Q : VK) (E : XK), Room k (A.deeper (envOfC qual (defScope st) s.heap.objs.size f (.ref c))) → sp vs H Q E →
      ∃ t, PSs (cxOf CX0 P w K mg base N qual (defScope st) f (.ref c) A outer s H E).nox (defBody st) t ∧ t { nx := fun _ H' => Q .non H', rt := Q } (start N vs) H) : FnOk P w K mg base CX0 (k + 1) f fd ps sp := by
  obtain ⟨oc, od, kV, doc, pm, an, ct, osl, rfl, lk, hcd⟩ := F.ex
  refine fn_of lk hcd S len fun A outer s H vs Q E hr hsp => ?_
  obtain ⟨t, h, q⟩ := body A outer s H vs Q E hr hsp
  exact ⟨t, h.nox, q⟩
end
/-! ### kinds of data -/
def tyD : PyData → String
  | .none => "NoneType"
  | .bool _ => "bool"
  | .int _ => "int"
  | .str _ => "str"
  | .list _ => "list"
  | .tuple _ => "tuple"
  | .dict _ => "dict"
def isS : PyData → Bool
  | .str _ => true
  | _ => false
def isT : PyData → Bool
  | .tuple _ => true
  | _ => false
theorem ty_dp {K : PySem.W.Frag} {H : Hp} {v : V} {d : PyData} (h : Dp K H v d) : TyX K H v (.type (tyD d)) := by
  cases h with
  | non => exact .base .non
  | bl b => exact .base (.bl b)
  | int i => exact .base (.int i)
  | str z => exact .base (.str z)
  | lst a _ =>
    rcases a with (a | ⟨o, a⟩) | ⟨o, _, _, a, b, _⟩
    · exact .base (.lst a)
    · exact .base (.frz a)
    · exact .kList a b
  | tup a _ =>
    rcases a with (a | ⟨o, a⟩) | ⟨o, _, _, a, b, _⟩
    · exact .base (.tup a)
    · exact .fTuple a
    · exact .kTuple a b
theorem kit_s : ∀ d : PyData, kitB (tyD d) "str" = some (isS d)
  | .none => show kitB "NoneType" "str" = some false by decide +kernel
  | .bool _ => show kitB "bool" "str" = some false by decide +kernel
  | .int _ => show kitB "int" "str" = some false by decide +kernel
  | .str _ => show kitB "str" "str" = some true by decide +kernel
  | .list _ => show kitB "list" "str" = some false by decide +kernel
  | .tuple _ => show kitB "tuple" "str" = some false by decide +kernel
  | .dict _ => show kitB "dict" "str" = some false by decide +kernel
theorem kit_t : ∀ d : PyData, kitB (tyD d) "tuple" = some (isT d)
  | .none => show kitB "NoneType" "tuple" = some false by decide +kernel
  | .bool _ => show kitB "bool" "tuple" = some false by decide +kernel
  | .int _ => show kitB "int" "tuple" = some false by decide +kernel
  | .str _ => show kitB "str" "tuple" = some false by decide +kernel
  | .list _ => show kitB "list" "tuple" = some false by decide +kernel
  | .tuple _ => show kitB "tuple" "tuple" = some true by decide +kernel
  | .dict _ => show kitB "dict" "tuple" = some false by decide +kernel
/-! ### the tables -/
def Tabs (P1 P2 : Addr) (H : Hp) : Prop := GxR.TabG H P1 ∧ GxR.TabG H P2
def Tx (P1 P2 : Addr) (H H' : Hp) : Prop := Tabs P1 P2 H' ∧ Ky H H'
theorem Tx.refl {P1 P2 : Addr} {H : Hp} (h : Tabs P1 P2 H) : Tx P1 P2 H H := ⟨h, Ky.refl⟩
theorem Tx.trans {P1 P2 : Addr} {H H1 H2 : Hp} (x : Tx P1 P2 H H1) (y : Tx P1 P2 H1 H2) : Tx P1 P2 H H2 := ⟨y.1, x.2.trans y.2⟩
theorem tab_ne {P : Addr} {H : Hp} (h : GxR.TabG H P) {a : Addr} {o : HO} (n : ∀ ps, o ≠ HO.tbl ps) (e : H a = some o) : a ≠ P := fun z => by
  obtain ⟨ps, hp, _⟩ := h
  rw [z, hp] at e
  exact n ps (Option.some.inj e).symm
theorem tx_tab1 {P1 P2 : Addr} {H H' : Hp} (h : Tabs P1 P2 H) (t : GxR.Tabbed P1 H H') : Tx P1 P2 H H' := by
  refine ⟨⟨t.1, ?_⟩, fun a o n e => ?_⟩
  · by_cases z : P2 = P1
    · rw [z]
      exact t.1
    · obtain ⟨ps, hp, r⟩ := h.2
      exact ⟨ps, by rw [t.2 P2 z]; exact hp, r⟩
  · rw [t.2 a (tab_ne h.1 n e)]
    exact e
theorem tx_tab2 {P1 P2 : Addr} {H H' : Hp} (h : Tabs P1 P2 H) (t : GxR.Tabbed P2 H H') : Tx P1 P2 H H' := by
  refine ⟨⟨?_, t.1⟩, fun a o n e => ?_⟩
  · by_cases z : P1 = P2
    · rw [z]
      exact t.1
    · obtain ⟨ps, hp, r⟩ := h.1
      exact ⟨ps, by rw [t.2 P1 z]; exact hp, r⟩
  · rw [t.2 a (tab_ne h.2 n e)]
    exact e
theorem Tabs.same {P1 P2 : Addr} {H H' : Hp} (h : Tabs P1 P2 H) (s : Same H H') : Tabs P1 P2 H' := by
  obtain ⟨⟨ps, hp, r⟩, qs, hq, r2⟩ := h
  exact ⟨⟨ps, s _ _ hp, r⟩, qs, s _ _ hq, r2⟩
theorem Tx.of {P1 P2 : Addr} {H H' : Hp} (h : Tabs P1 P2 H) (s : Same H H') : Tx P1 P2 H H' := ⟨h.same s, .of s⟩
/-! ### a small letter -/
abbrev sSl : Stmt := topS 10
theorem scSl : FnScope ["sign"] ["sign"] (defScope sSl) := ⟨rfl, rfl, rfl, by decide +kernel, rfl, by decide +kernel, by decide +kernel⟩
def spSl : Sp := fun vs H Q _ => ∃ ch : Nat, vs = [.str ⟨#[ch]⟩] ∧ Q (.bl (isL ch)) H
theorem lt1 (a b : Nat) : (([a] : List Nat) < [b]) ↔ a < b := by
  rw [List.cons_lt_cons_iff]
  simp
section
variable {P : Program} {w : World} {K : PySem.W.Frag} {mg : Str → Option Value} {base : Heap}
theorem ok_sl {f : Addr} {fd : FuncData} {k : Nat} (F : Fun K "is_small_letter" "is_small_letter" sSl f fd) : FnOk P w K mg base CX0 (k + 1) f fd ["sign"] spSl := by
  refine F.ok scSl (fun vs H Q E h => ?_) (fun cdv A outer s H vs Q E hr h => ?_)
  · obtain ⟨ch, rfl, _⟩ := h
    rfl
  · obtain ⟨ch, rfl, q⟩ := h
    refine ⟨_, pss_one (ps_ret (pe_chain op_le_str op_le_str pe_str (pv 0) pe_str)), ?_⟩
    have e1 : (!decide (([ch] : List Nat) < [97])) = decide (97 ≤ ch) := by
      rw [Bool.eq_iff_iff]
      simp only [Bool.not_eq_true', decide_eq_false_iff_not, decide_eq_true_eq, lt1]
      omega
    have e2 : (!decide (([122] : List Nat) < [ch])) = decide (ch ≤ 122) := by
      rw [Bool.eq_iff_iff]
      simp only [Bool.not_eq_true', decide_eq_false_iff_not, decide_eq_true_eq, lt1]
      omega
    refine ⟨_, rfl, _, _, rfl, rfl, decide (97 ≤ ch), congrArg V.bl e1, ite2 (fun e => ?_) (fun e => ?_)⟩
    · refine ⟨_, _, rfl, rfl, ?_⟩
      show Q (.bl (!decide (([122] : List Nat) < [ch]))) H
      rw [e2]
      unfold isL at q
      rw [e, Bool.true_and] at q
      exact q
    · unfold isL at q
      rw [Bool.eq_false_iff.mpr e, Bool.false_and] at q
      exact q
end
/-! ### a word -/
abbrev sIw : Stmt := topS 12
abbrev nIw : List Str := ["thing", "most", "sign"]
theorem scIw : FnScope nIw ["thing", "most"] (defScope sIw) := ⟨rfl, rfl, rfl, by decide +kernel, rfl, by decide +kernel, by decide +kernel⟩
/-- the generator that a def's last statement hands to all -/
def genScope : Expr → Scope
  | .Call _ [.GeneratorExp _ _ sc _] _ _ => sc
  | .BoolOp _ (.Call _ [.GeneratorExp _ _ sc _] _ _ :: _) _ => sc
  | _ => { kind := .function, names := [], isGenerator := false, isCoroutine := false }
def retOf : Stmt → Expr
  | .Return (some e) _ => e
  | _ => .Constant .none 0 ⟨0, 0, 0, 0⟩
abbrev gIw : Scope := genScope (retOf ((defBody sIw).getD 1 (.Pass ⟨0, 0, 0, 0⟩)))
theorem gnIw : Gx.GenN nIw (defScope sIw) gIw [("sign", 2)] := ⟨rfl, rfl, by decide +kernel, rfl, by decide +kernel, by decide +kernel, by decide +kernel, by decide +kernel⟩
def spIw (K : PySem.W.Frag) (P1 P2 : Addr) : Sp := fun vs H Q _ => ∃ (v : V) (m : Nat) (d : PyData), vs = [v, .int m] ∧ m ≤ 8 ∧ Dp K H v d ∧ wt d ≤ 100000 ∧ Tabs P1 P2 H ∧ ∀ H', Tx P1 P2 H H' → Q (.bl (isWordD m d)) H'
theorem all_range (l : List Nat) (p : Nat → Bool) (d : Nat) : ((List.range l.length).all fun j => p (l.getD j d)) = l.all p := by
  rw [Bool.eq_iff_iff, List.all_eq_true, List.all_eq_true]
  constructor
  · intro h x hx
    obtain ⟨i, hi, e⟩ := List.mem_iff_getElem.mp hx
    have h2 := h i (List.mem_range.mpr hi)
    rw [List.getD_eq_getElem?_getD, List.getElem?_eq_getElem hi, e] at h2
    exact h2
  · intro h j hj
    have hj2 := List.mem_range.mp hj
    rw [List.getD_eq_getElem?_getD, List.getElem?_eq_getElem hj2]
    exact h _ (List.getElem_mem hj2)
section
variable {P : Program} {w : World} {K : PySem.W.Frag} {mg : Str → Option Value} {base : Heap}
theorem ok_iw {f c fS P1 P2 : Addr} {fd fdS : FuncData} {k : Nat} (F : FunC K "is_word" "is_word" sIw f c fd) (TB : GxR.TabB base mg c P1) (FS : Fun K "is_small_letter" "is_small_letter" sSl fS fdS) (bS : Binds K fdS ["sign"] []) (gS : mg "is_small_letter" = some (.ref fS))
    (ml : mg "len" = none) (mi : mg "isinstance" = none) (ms : mg "str" = none) (ma : mg "all" = none) : FnOk P w K mg base CX0 (k + 3) f fd ["thing", "most"] (spIw K P1 P2) := by
  have GS : FnOk P w K mg base CX0 (k + 1) fS fdS ["sign"] spSl := ok_sl FS
  refine F.ok scIw (fun vs H Q E h => ?_) (fun A outer s H vs Q E hr h => ?_)
  · obtain ⟨v, m, d, rfl, _⟩ := h
    rfl
  · obtain ⟨v, m, d, rfl, hm, hd, hw, ht, q⟩ := h
    refine ⟨_, pss_cons (ps_if (PW.pt (pw_or (pt_not (pt_val (pe_callB call_isi (by rfl) mi PyProof.Rows.boot_isinstance (pa_cons (pv 0) (pa_cons (pe_bltn (v := .ty "str") (by rfl) ms PyProof.Rows.Boot.«str» rfl) pa_nil)))))
        (pw_or1 (pt_not (pt_chain op_le op_le pe_int (pe_callB call_len_str (by rfl) ml PySem.boot_len (pa_cons (pv 0) pa_nil)) (pv 1))))))
        (pss_one (ps_ret pe_bl)) pss_nil)
      (pss_one (ps_ret (Gx.pe_allG (own := [("sign", 2)]) (gt := gName 2) hr (by rfl) ma (by decide +kernel) TB rfl
        (scope := gIw) gnIw scIw.nd (pi_str (pv 0))
        (fun _ _ _ _ _ _ => pg_name (i := 2) scIw.nd rfl (.inl rfl))
        (fun _ _ _ _ _ _ hr' => pe_call GS hr' (by rfl) gS FS.kp bS .nil pass0 (pa_cons (pv 2) pa_nil)) (fun _ => rfl)))), ?_⟩
    refine ⟨v, rfl, v, _, _, _, _, rfl, .ty _, ty_dp hd, kit_ty (kit_s d), _, rfl, ?_⟩
    have no : isS d = false → isWordD m d = false := fun e => by
      cases d with
      | str z => cases e
      | _ => rfl
    refine ite2 (fun e => ?_) (fun e => ?_)
    · have e2 : isS d = false := by simpa using e
      refine iteT ?_
      have q2 := q H (.refl ht)
      rw [no e2] at q2
      exact q2
    · have e2 : isS d = true := by simpa using e
      cases d with
      | str z =>
        cases hd
        have hz : z.length ≤ 10000 := by
          rw [wt] at hw
          omega
        have hz2 : z.length ≤ sizeLine := Nat.le_trans hz (by decide)
        have all_ : ∀ H', Tx P1 P2 H H' → 1 ≤ z.length → z.length ≤ m → Q (.bl ((List.range z.cps.toList.length).all fun j => isL (z.cps.toList.getD j 0))) H' := fun H' x a1 a2 => by
          have q2 := q H' x
          rw [all_range]
          have e9 : isWordD m (.str z) = (decide (1 ≤ z.length) && (decide (z.length ≤ m) && z.cps.toList.all isL)) := rfl
          rw [e9, decide_eq_true a1, decide_eq_true a2, Bool.true_and, Bool.true_and] at q2
          exact q2
        have nay : ¬ (1 ≤ z.length ∧ z.length ≤ m) → Q (.bl false) H := fun n => by
          have q2 := q H (.refl ht)
          have e9 : isWordD m (.str z) = false := by
            show (decide (1 ≤ z.length) && (decide (z.length ≤ m) && z.cps.toList.all isL)) = false
            by_cases a1 : 1 ≤ z.length
            · rw [decide_eq_false (fun a2 => n ⟨a1, a2⟩), Bool.false_and, Bool.and_false]
            · rw [decide_eq_false a1, Bool.false_and]
          rw [e9] at q2
          exact q2
        have len_ : z.length = z.cps.toList.length := by simp [Str.length]
        refine ⟨.str z, rfl, z, rfl, hz2, _, _, rfl, rfl, _, rfl, ite2 (fun e3 => ?_) (fun e3 => ?_)⟩
        · have a1 := of_decide_eq_true e3
          refine ⟨.int m, rfl, _, _, rfl, rfl, _, rfl, ite2 (fun e4 => ?_) (fun e4 => ?_)⟩
          · have a2 : ¬ ((z.length : Int) ≤ m) := by simpa using e4
            exact nay fun h => a2 (by omega)
          · have a2 : (z.length : Int) ≤ m := by simpa using e4
            refine ⟨.str z, rfl, z, rfl, ht.1, z.cps.toList.length, fun j => isL (z.cps.toList.getD j 0), fun j σ' H' => (∃ y, σ' = [some (.str z), some (.int m), y]) ∧ Tx P1 P2 H H', fun H2 t => ⟨⟨none, rfl⟩, tx_tab1 ht t⟩, fun j σ' H' hj W => ?_, fun σ' H' W => ?_, fun j σ' H' W => ?_⟩
            · obtain ⟨⟨y, rfl⟩, x⟩ := W
              refine ⟨by show j < z.cps.size; simpa using hj, fun v H2 yy => ?_⟩
              obtain ⟨rfl, ch, hc, rfl⟩ := yy
              refine ⟨_, rfl, ch, rfl, ?_, ⟨_, rfl⟩, x⟩
              show V.bl (isL ch) = V.bl (isL (z.cps.toList.getD j 0))
              rw [List.getD_eq_getElem?_getD, Array.getElem?_toList, hc]
              rfl
            · show z.cps.size ≤ z.cps.toList.length
              simp
            · exact all_ H' W.2 (by omega) (by omega)
        · have a1 : ¬ ((1 : Int) ≤ z.length) := fun h => e3 (decide_eq_true h)
          exact ⟨false, rfl, iteT (nay fun h => a1 (by omega))⟩
      | _ => cases e2
end
end Cv
set_option Elab.async false
set_option linter.all false
set_option maxRecDepth 100000
set_option maxHeartbeats 4000000
namespace Cv
open PySem PySem.Spec PyProof.Rows L2
/-- a def at its place, and what it promises -/
structure At (P : Program) (w : World) (K : PySem.W.Frag) (mg : Str → Option Value) (base : Heap) (CX : CXT) (k : Nat) (nm : Str) (f : Addr) (fd : FuncData) (ps : List Str) (sp : Sp) : Prop where
  ok : FnOk P w K mg base CX k f fd ps sp
  kp : PySem.W.keepIn K (.ref f) = true
  b : Binds K fd ps []
  g : mg nm = some (.ref f)
def spW (m : Nat) (K : PySem.W.Frag) (P1 P2 : Addr) : Sp := fun vs H Q _ => ∃ (v : V) (d : PyData), vs = [v] ∧ Dp K H v d ∧ wt d ≤ 100000 ∧ Tabs P1 P2 H ∧ ∀ H', Tx P1 P2 H H' → Q (.bl (isWordD m d)) H'
abbrev sIn : Stmt := topS 20
abbrev sIc : Stmt := topS 21
theorem scIn : FnScope ["thing"] ["thing"] (defScope sIn) := ⟨rfl, rfl, rfl, by decide +kernel, rfl, by decide +kernel, by decide +kernel⟩
theorem scIc : FnScope ["thing"] ["thing"] (defScope sIc) := ⟨rfl, rfl, rfl, by decide +kernel, rfl, by decide +kernel, by decide +kernel⟩
theorem dp_strs {K : PySem.W.Frag} {H : Hp} {m : Nat} : ∀ {ds : List PyData} {xs : List V}, DpAll K H xs ds → ds.all (isWordD m) = true → xs = (ds.map strOf).map V.str
  | [], _, h, _ => by cases h; rfl
  | d :: r, _, h, a => by
    have a' : isWordD m d = true ∧ r.all (isWordD m) = true := by simpa using a
    obtain ⟨z, rfl, _⟩ := word_str a'.1
    cases h with
    | cons h1 h2 =>
      cases h1
      rw [List.map_cons, List.map_cons, ← dp_strs h2 a'.2]
      rfl
theorem all_rangeD (l : List PyData) (p : PyData → Bool) : ((List.range l.length).all fun j => p (l.getD j .none)) = l.all p := by
  rw [Bool.eq_iff_iff, List.all_eq_true, List.all_eq_true]
  constructor
  · intro h x hx
    obtain ⟨i, hi, e⟩ := List.mem_iff_getElem.mp hx
    have h2 := h i (List.mem_range.mpr hi)
    rw [List.getD_eq_getElem?_getD, List.getElem?_eq_getElem hi, e] at h2
    exact h2
  · intro h j hj
    have hj2 := List.mem_range.mp hj
    rw [List.getD_eq_getElem?_getD, List.getElem?_eq_getElem hj2]
    exact h _ (List.getElem_mem hj2)
abbrev sUc : Stmt := topS 22
abbrev nUc : List Str := ["things", "thing"]
theorem scUc : FnScope nUc ["things"] (defScope sUc) := ⟨rfl, rfl, rfl, by decide +kernel, rfl, by decide +kernel, by decide +kernel⟩
abbrev gUc : Scope := genScope (retOf ((defBody sUc).getD 0 (.Pass ⟨0, 0, 0, 0⟩)))
theorem gnUc : Gx.GenN nUc (defScope sUc) gUc [("thing", 1)] := ⟨rfl, rfl, by decide +kernel, rfl, by decide +kernel, by decide +kernel, by decide +kernel, by decide +kernel⟩
def spUc (K : PySem.W.Frag) (P1 P2 : Addr) : Sp := fun vs H Q _ => ∃ (a : Addr) (xs : List V) (ds : List PyData), vs = [.ref a] ∧ SqT K H a xs ∧ DpAll K H xs ds ∧ wts ds ≤ 100000 ∧ ds.length ≤ 1000 ∧ Tabs P1 P2 H ∧ ∀ H', Tx P1 P2 H H' → Q (.bl (unlikeD ds)) H'
abbrev sIs : Stmt := topS 23
theorem scIs : FnScope ["thing", "name", "codes"] ["thing"] (defScope sIs) := ⟨rfl, rfl, rfl, by decide +kernel, rfl, by decide +kernel, by decide +kernel⟩
def spIs (K : PySem.W.Frag) (P1 P2 : Addr) : Sp := fun vs H Q _ => ∃ (v : V) (d : PyData), vs = [v] ∧ Dp K H v d ∧ wt d ≤ 100000 ∧ Tabs P1 P2 H ∧ ∀ H', Tx P1 P2 H H' → Q (.bl (isSortD d)) H'
section
variable {P : Program} {w : World} {K : PySem.W.Frag} {mg : Str → Option Value} {base : Heap}
theorem ok_in {f fW P1 P2 : Addr} {fd fdW : FuncData} {k : Nat} {t : Tok} (F : Fun K "is_name" "is_name" sIn f fd) (W : At P w K mg base CX0 k "is_word" fW fdW ["thing", "most"] (spIw K P1 P2)) (g8 : mg "MOST_NAME" = some (.int 8 t)) :
    FnOk P w K mg base CX0 (k + 1) f fd ["thing"] (spW 8 K P1 P2) := by
  refine F.ok scIn (fun vs H Q E h => ?_) (fun cdv A outer s H vs Q E hr h => ?_)
  · obtain ⟨v, d, rfl, _⟩ := h
    rfl
  · obtain ⟨v, d, rfl, hd, hw, ht, q⟩ := h
    exact ⟨_, pss_one (ps_ret (pe_call W.ok hr (by rfl) W.g W.kp W.b .nil pass0 (pa_cons (pv 0) (pa_cons (pe_glob (v := .int 8) (by rfl) g8 ⟨_, rfl⟩) pa_nil)))), v, rfl, v, 8, d, rfl, by decide, hd, hw, ht, q⟩
theorem ok_ic {f fW P1 P2 : Addr} {fd fdW : FuncData} {k : Nat} {t : Tok} (F : Fun K "is_code" "is_code" sIc f fd) (W : At P w K mg base CX0 k "is_word" fW fdW ["thing", "most"] (spIw K P1 P2)) (g4 : mg "MOST_CODE" = some (.int 4 t)) :
    FnOk P w K mg base CX0 (k + 1) f fd ["thing"] (spW 4 K P1 P2) := by
  refine F.ok scIc (fun vs H Q E h => ?_) (fun cdv A outer s H vs Q E hr h => ?_)
  · obtain ⟨v, d, rfl, _⟩ := h
    rfl
  · obtain ⟨v, d, rfl, hd, hw, ht, q⟩ := h
    exact ⟨_, pss_one (ps_ret (pe_call W.ok hr (by rfl) W.g W.kp W.b .nil pass0 (pa_cons (pv 0) (pa_cons (pe_glob (v := .int 4) (by rfl) g4 ⟨_, rfl⟩) pa_nil)))), v, rfl, v, 4, d, rfl, by decide, hd, hw, ht, q⟩
theorem ok_uc {f c fC P1 P2 : Addr} {fd fdC : FuncData} {k : Nat} (F : FunC K "are_unlike_codes" "are_unlike_codes" sUc f c fd) (TB : GxR.TabB base mg c P2) (C : At P w K mg base CX0 k "is_code" fC fdC ["thing"] (spW 4 K P1 P2))
    (ml : mg "len" = none) (ms : mg "set" = none) (ma : mg "all" = none) : FnOk P w K mg base CX0 (k + 2) f fd ["things"] (spUc K P1 P2) := by
  refine F.ok scUc (fun vs H Q E h => ?_) (fun A outer s H vs Q E hr h => ?_)
  · obtain ⟨a, xs, ds, rfl, _⟩ := h
    rfl
  · obtain ⟨a, xs, ds, rfl, sq, hd, hw, few, ht, q⟩ := h
    refine ⟨_, pss_one (ps_ret (pe_and (Gx.pe_allG (own := [("thing", 1)]) (gt := gName 1) hr (by rfl) ma (by decide +kernel) TB rfl (scope := gUc) gnUc scUc.nd (pi_tup (pv 0))
        (fun _ _ _ _ _ _ => pg_name (i := 1) scUc.nd rfl (.inl rfl)) (fun _ _ _ _ _ _ hr' => pe_call C.ok hr' (by rfl) C.g C.kp C.b .nil pass0 (pa_cons (pv 1) pa_nil)) (fun _ => rfl))
      (pe_one (pe_cmpR op_eq (Sx.pe_lenSetT rfl (by rfl) ml (by rfl) ms (pv 0)) (pe_callB call_len_seq (by rfl) ml PySem.boot_len (pa_cons (pv 0) pa_nil)) (nomark _))))), ?_⟩
    have len_ := dpAll_len hd
    refine ⟨.ref a, rfl, a, rfl, ⟨xs, sq⟩, ht.2, ds.length, fun j => isWordD 4 (ds.getD j .none), fun j σ' H' => (∃ y, σ' = [some (.ref a), y]) ∧ Tx P1 P2 H H', fun H2 t => ⟨⟨none, rfl⟩, tx_tab2 ht t⟩, fun j σ' H' hj W => ?_, fun σ' H' W => ?_, fun j σ' H' W => ?_⟩
    · obtain ⟨⟨y, rfl⟩, x⟩ := W
      have sq' := x.2.sqT sq
      have hj' : j < xs.length := by omega
      refine ⟨⟨xs, xs[j], sq', List.getElem?_eq_getElem hj'⟩, fun v H2 yy => ?_⟩
      obtain ⟨rfl, yy⟩ := yy
      obtain ⟨d, e1, e2⟩ := dpAll_get (x.2.dpAll ds xs hd) (yy xs sq')
      have hw' := wt_mem (List.mem_of_getElem? e1)
      refine ⟨v, rfl, v, d, rfl, e2, by omega, x.1, fun H3 x3 => ⟨?_, ⟨_, rfl⟩, x.trans x3⟩⟩
      show V.bl (isWordD 4 d) = V.bl (isWordD 4 (ds.getD j .none))
      rw [List.getD_eq_getElem?_getD, e1]
      rfl
    · exact ⟨xs, W.2.2.sqT sq, by omega⟩
    · obtain ⟨_, x⟩ := W
      refine ⟨_, rfl, ite2 (fun e => ?_) (fun e => ?_)⟩
      · rw [all_rangeD] at e
        have ex := dp_strs hd e
        have sq' := x.2.sqT sq
        refine ⟨.ref a, rfl, a, ds.map strOf, rfl, by rw [← ex]; exact sq', by rw [List.length_map]; exact few, .ref a, rfl, a, xs, rfl, .inr sq', rfl, ?_⟩
        have q2 := q H' x
        unfold unlikeD at q2
        rw [e, Bool.true_and] at q2
        have e3 : decide (V.int ((Sx.nd (ds.map strOf) : Nat) : Int) = V.int ((xs.length : Nat) : Int)) = decide ((ds.map strOf).Nodup) := by
          have z := Sx.nd_eq (ds.map strOf)
          rw [List.length_map] at z
          rw [Bool.eq_iff_iff, decide_eq_true_iff, decide_eq_true_iff, ← z]
          constructor
          · intro h
            have h2 := V.int.inj h
            omega
          · intro h
            rw [h, len_]
        show Q (.bl (decide (V.int ((Sx.nd (ds.map strOf) : Nat) : Int) = V.int ((xs.length : Nat) : Int)))) H'
        rw [e3]
        exact q2
      · have e' : ds.all (isWordD 4) = false := by
          rw [all_rangeD] at e
          exact Bool.eq_false_iff.mpr e
        have q2 := q H' x
        unfold unlikeD at q2
        rw [e', Bool.false_and] at q2
        exact q2
end
end Cv
set_option Elab.async false
set_option linter.all false
set_option maxRecDepth 100000
set_option maxHeartbeats 400000
namespace Cv
open PySem PySem.Spec PyProof.Rows L2
theorem two_of {K : PySem.W.Frag} {H : Hp} {xs : List V} {ds : List PyData} (h : DpAll K H xs ds) (l : xs.length = 2) : ∃ x y dx dy, xs = [x, y] ∧ ds = [dx, dy] ∧ Dp K H x dx ∧ Dp K H y dy := by
  cases h with
  | nil => cases l
  | cons h1 h =>
    cases h with
    | nil => cases l
    | cons h2 h =>
      cases h with
      | nil => exact ⟨_, _, _, _, rfl, rfl, h1, h2⟩
      | cons h3 h =>
        simp only [List.length_cons] at l
        omega
theorem sort_len {ds : List PyData} (h : ds.length ≠ 2) : isSortD (.tuple ds) = false := by
  unfold isSortD
  split
  · rename_i n cs e
    cases e
    exact absurd rfl h
  · rfl
theorem sort_name {dx dy : PyData} (h : isWordD 8 dx = false) : isSortD (.tuple [dx, dy]) = false := by
  unfold isSortD
  split
  · rename_i n cs e
    cases e
    rw [h, Bool.false_and]
  · rfl
theorem sort_tup {dx dy : PyData} (h : isT dy = false) : isSortD (.tuple [dx, dy]) = false := by
  unfold isSortD
  split
  · rename_i n cs e
    cases e
    cases h
  · rfl
theorem sort_yes {dx : PyData} {cs : List PyData} (h : isWordD 8 dx = true) : isSortD (.tuple [dx, .tuple cs]) = (decide (2 ≤ cs.length) && (decide (cs.length ≤ 6) && unlikeD cs)) := by
  show (isWordD 8 dx && (decide (2 ≤ cs.length) && (decide (cs.length ≤ 6) && unlikeD cs))) = _
  rw [h, Bool.true_and]
theorem sort_kind {d : PyData} (h : isT d = false) : isSortD d = false := by
  cases d with
  | tuple ds => cases h
  | _ => rfl
theorem tup_of {d : PyData} (h : isT d = true) : ∃ ds, d = .tuple ds := by
  cases d with
  | tuple ds => exact ⟨ds, rfl⟩
  | _ => cases h
theorem dp_tup {K : PySem.W.Frag} {H : Hp} {v : V} {ds : List PyData} (h : Dp K H v (.tuple ds)) : ∃ a xs, v = .ref a ∧ SqT K H a xs ∧ DpAll K H xs ds := by
  cases h with
  | tup a b => exact ⟨_, _, rfl, a, b⟩
section
variable {P : Program} {w : World} {K : PySem.W.Frag} {mg : Str → Option Value} {base : Heap}
theorem ndT {p : Prop} [Decidable p] (h : (!decide p) = true) : ¬ p := fun hp => by
  rw [decide_eq_true hp] at h
  cases h
theorem ndF {p : Prop} [Decidable p] (h : ¬ (!decide p) = true) : p := by
  by_cases hp : p
  · exact hp
  · rw [decide_eq_false hp] at h
    exact absurd rfl h
/-! ### a tuple of so many -/
abbrev sTf : Stmt := topS 13
theorem scTf : FnScope ["thing", "many"] ["thing", "many"] (defScope sTf) := ⟨rfl, rfl, rfl, by decide +kernel, rfl, by decide +kernel, by decide +kernel⟩
def isTof (m : Int) : PyData → Bool
  | .tuple ds => decide ((ds.length : Int) = m)
  | _ => false
def spTf (K : PySem.W.Frag) : Sp := fun vs H Q _ => ∃ (v : V) (m : Int) (d : PyData), vs = [v, .int m] ∧ Dp K H v d ∧ Q (.bl (isTof m d)) H
theorem ok_tf {f : Addr} {fd : FuncData} {k : Nat} (F : Fun K "is_tuple_of" "is_tuple_of" sTf f fd) (ml : mg "len" = none) (mi : mg "isinstance" = none) (mt : mg "tuple" = none) : FnOk P w K mg base CX0 (k + 1) f fd ["thing", "many"] (spTf K) := by
  refine F.ok scTf (fun vs H Q E h => ?_) (fun cdv A outer s H vs Q E hr h => ?_)
  · obtain ⟨v, m, d, rfl, _⟩ := h
    rfl
  · obtain ⟨v, m, d, rfl, hd, q⟩ := h
    refine ⟨_, pss_one (ps_ret (pe_and (pe_callB call_isi (by rfl) mi PyProof.Rows.boot_isinstance (pa_cons (pv 0) (pa_cons (pe_bltn (v := .ty "tuple") (by rfl) mt PyProof.Rows.Boot.«tuple» rfl) pa_nil)))
      (pe_one (pe_cmpR op_eq (pe_callB call_len_seq (by rfl) ml PySem.boot_len (pa_cons (pv 0) pa_nil)) (pv 1) (nomark _))))), ?_⟩
    refine ⟨v, rfl, v, _, _, _, _, rfl, .ty _, ty_dp hd, kit_ty (kit_t d), _, rfl, ite2 (fun e => ?_) (fun e => ?_)⟩
    · obtain ⟨ds, rfl⟩ := tup_of (d := d) (by simpa using e)
      obtain ⟨a, xs, rfl, sq, hds⟩ := dp_tup hd
      have len_ := dpAll_len hds
      refine ⟨.ref a, rfl, a, xs, rfl, .inr sq, _, rfl, rfl, ?_⟩
      have e3 : decide (V.int ((xs.length : Nat) : Int) = V.int m) = decide ((ds.length : Int) = m) := by
        rw [Bool.eq_iff_iff, decide_eq_true_iff, decide_eq_true_iff, len_]
        exact ⟨fun h => V.int.inj h, fun h => by rw [h]⟩
      show Q (.bl (decide (V.int ((xs.length : Nat) : Int) = V.int m))) H
      rw [e3]
      exact q
    · have e2 : isT d = false := by simpa using e
      have e4 : isTof m d = false := by
        cases d with
        | tuple ds => cases e2
        | _ => rfl
      rw [e4] at q
      exact q
theorem ok_is {f fT fN fU P1 P2 : Addr} {fd fdT fdN fdU : FuncData} {k : Nat} {t2 t6 : Tok} (F : Fun K "is_sort" "is_sort" sIs f fd) (Tf : At P w K mg base CX0 k "is_tuple_of" fT fdT ["thing", "many"] (spTf K)) (Nm : At P w K mg base CX0 k "is_name" fN fdN ["thing"] (spW 8 K P1 P2)) (U : At P w K mg base CX0 k "are_unlike_codes" fU fdU ["things"] (spUc K P1 P2))
    (ml : mg "len" = none) (mi : mg "isinstance" = none) (mt : mg "tuple" = none) (g2 : mg "LEAST_CODES" = some (.int 2 t2)) (g6 : mg "MOST_CODES" = some (.int 6 t6)) : FnOk P w K mg base CX0 (k + 1) f fd ["thing"] (spIs K P1 P2) := by
  refine F.ok scIs (fun vs H Q E h => ?_) (fun cdv A outer s H vs Q E hr h => ?_)
  · obtain ⟨v, d, rfl, _⟩ := h
    rfl
  · obtain ⟨v, d, rfl, hd, hw, ht, q⟩ := h
    refine ⟨_, pss_cons (ps_if (pt_not (pt_val (pe_call Tf.ok hr (by rfl) Tf.g Tf.kp Tf.b .nil pass0 (pa_cons (pv 0) (pa_cons pe_int pa_nil))))) (pss_one (ps_ret pe_bl)) pss_nil)
      (pss_cons (ps_asg (pv 0) (pg_tup rfl (pgs_cons (pg_name (i := 1) scIs.nd rfl (.inl rfl)) (pgs_cons (pg_name (i := 2) scIs.nd rfl (.inl rfl)) pgs_nil))))
      (pss_cons (ps_if (PW.pt (pw_or (pt_not (pt_val (pe_call Nm.ok hr (by rfl) Nm.g Nm.kp Nm.b .nil pass0 (pa_cons (pv 1) pa_nil))))
        (pw_or1 (pt_not (pt_val (pe_callB call_isi (by rfl) mi PyProof.Rows.boot_isinstance (pa_cons (pv 2) (pa_cons (pe_bltn (v := .ty "tuple") (by rfl) mt PyProof.Rows.Boot.«tuple» rfl) pa_nil)))))))) (pss_one (ps_ret pe_bl)) pss_nil)
      (pss_one (ps_ret (pe_and (pe_chain op_le op_le (pe_glob (v := .int 2) (by rfl) g2 ⟨_, rfl⟩) (pe_callB call_len_seq (by rfl) ml PySem.boot_len (pa_cons (pv 2) pa_nil)) (pe_glob (v := .int 6) (by rfl) g6 ⟨_, rfl⟩))
        (pe_one (pe_call U.ok hr (by rfl) U.g U.kp U.b .nil pass0 (pa_cons (pv 2) pa_nil)))))))), ?_⟩
    have nay : ∀ H', Tx P1 P2 H H' → isSortD d = false → Q (.bl false) H' := fun H' x e => by
      have q2 := q H' x
      rw [e] at q2
      exact q2
    refine ⟨v, rfl, v, 2, d, rfl, hd, _, rfl, ite2 (fun e => ?_) (fun e => ?_)⟩
    · refine nay H (.refl ht) ?_
      have e2 : isTof 2 d = false := by simpa using e
      cases d with
      | tuple ds =>
        refine sort_len fun z => ?_
        have e3 : decide ((ds.length : Int) = 2) = false := e2
        exact of_decide_eq_false e3 (by omega)
      | _ => rfl
    · have e2 : isTof 2 d = true := by simpa using e
      have e0 : isT d = true := by
        cases d with
        | tuple ds => rfl
        | _ => cases e2
      obtain ⟨ds, rfl⟩ := tup_of e0
      obtain ⟨a, xs, rfl, sq, hds⟩ := dp_tup hd
      have len_ := dpAll_len hds
      have hw' : wts ds ≤ 100000 := by
        rw [wt] at hw
        omega
      · have a3 : xs.length = 2 := by
          have e4 := of_decide_eq_true (show decide ((ds.length : Int) = 2) = true from e2)
          omega
        obtain ⟨x, y, dx, dy, rfl, rfl, h1, h2⟩ := two_of hds a3
        have w1 := wt_mem (show dx ∈ [dx, dy] from List.mem_cons_self)
        have w2 := wt_mem (show dy ∈ [dx, dy] from List.mem_cons_of_mem _ List.mem_cons_self)
        refine ⟨.ref a, rfl, a, _, rfl, sq, rfl, _, _, rfl, _, _, rfl, rfl, ?_⟩
        refine ⟨x, rfl, x, dx, rfl, h1, by omega, ht, fun H1 x1 => ⟨_, rfl, ?_⟩⟩
        refine ite2 (fun e5 => ?_) (fun e5 => ?_)
        · exact iteT (nay H1 x1 (sort_name (by simpa using e5)))
        · have e6 : isWordD 8 dx = true := by simpa using e5
          have h2' := x1.2.dp dy y h2
          refine ⟨y, rfl, y, _, _, _, _, rfl, .ty _, ty_dp h2', kit_ty (kit_t dy), _, rfl, ite2 (fun e7 => ?_) (fun e7 => ?_)⟩
          · exact nay H1 x1 (sort_tup (by simpa using e7))
          · obtain ⟨cs, rfl⟩ := tup_of (d := dy) (by simpa using e7)
            obtain ⟨b, ys, rfl, sq2, hcs⟩ := dp_tup h2'
            have len2 := dpAll_len hcs
            have hw2 : wts cs ≤ 100000 := by
              rw [wt] at w2
              omega
            have sd := sort_yes (cs := cs) e6
            refine ⟨.ref b, rfl, b, ys, rfl, .inr sq2, _, _, rfl, rfl, _, rfl, ite2 (fun e9 => ?_) (fun e9 => ?_)⟩
            · have l1 := of_decide_eq_true e9
              refine ⟨_, _, rfl, rfl, _, rfl, ite2 (fun e10 => ?_) (fun e10 => ?_)⟩
              · have l2 := of_decide_eq_true e10
                refine ⟨.ref b, rfl, b, ys, cs, rfl, sq2, hcs, hw2, by omega, x1.1, fun H2 x2 => ?_⟩
                have q2 := q H2 (x1.trans x2)
                rw [sd, decide_eq_true (show 2 ≤ cs.length by omega), decide_eq_true (show cs.length ≤ 6 by omega), Bool.true_and, Bool.true_and] at q2
                exact q2
              · refine nay H1 x1 ?_
                rw [sd, decide_eq_false (show ¬ cs.length ≤ 6 from fun z => e10 (decide_eq_true (by omega))), Bool.false_and, Bool.and_false]
            · refine ⟨false, rfl, iteF (nay H1 x1 ?_)⟩
              rw [sd, decide_eq_false (show ¬ 2 ≤ cs.length from fun z => e9 (decide_eq_true (by omega))), Bool.false_and]
end
end Cv
set_option Elab.async false
set_option linter.all false
set_option maxRecDepth 100000
set_option maxHeartbeats 1000000
namespace Cv
open PySem PySem.Spec PyProof.Rows L2
theorem cut_to (xs : List V) (k : Nat) : cutV xs none (some (k : Int)) = xs.take k := by
  unfold cutV
  rw [show HT.sIx xs.length 0 none = 0 from HT.sIx_none _ _, show HT.sIx xs.length xs.length (some (k : Int)) = min k xs.length from HT.sIx_nat xs.length xs.length k, List.drop_zero, Nat.sub_zero]
  by_cases h : k ≤ xs.length
  · rw [Nat.min_eq_left h]
  · rw [Nat.min_eq_right (by omega), List.take_of_length_le (Nat.le_refl _), List.take_of_length_le (by omega)]
theorem name_of {K : PySem.W.Frag} {H : Hp} {v : V} {d : PyData} (h : Dp K H v d) (s : isSortD d = true) : ∃ a y, v = .ref a ∧ SqT K H a [.str (nameOf d), y] := by
  obtain ⟨z, cs, rfl, _⟩ := sort_of s
  obtain ⟨a, xs, rfl, sq, hds⟩ := dp_tup h
  obtain ⟨x, y, dx, dy, rfl, e, h1, h2⟩ := two_of hds (dpAll_len hds)
  injection e with e1 e2
  subst e1
  cases h1
  exact ⟨a, y, rfl, sq⟩
/-! ### what is wrong with a plan -/
abbrev sPw : Stmt := topS 24
abbrev nPw : List Str := ["thing", "k", "sort", "names", "name", "codes"]
theorem scPw : FnScope nPw ["thing"] (defScope sPw) := ⟨rfl, rfl, rfl, by decide +kernel, rfl, by decide +kernel, by decide +kernel⟩
def spPw (K : PySem.W.Frag) (P1 P2 : Addr) : Sp := fun vs H Q _ => ∃ (v : V) (d : PyData), vs = [v] ∧ Dp K H v d ∧ wt d ≤ 100000 ∧ Tabs P1 P2 H ∧ ∀ H' r, Tx P1 P2 H H' → Dp K H' r (wrongD d) → Q r H'
section
variable {P : Program} {w : World} {K : PySem.W.Frag} {mg : Str → Option Value} {base : Heap}
theorem ok_pw {f fS P1 P2 : Addr} {fd fdS : FuncData} {k : Nat} {t4 : Tok} (F : Fun K "plan_wrong" "plan_wrong" sPw f fd) (S : At P w K mg base CX0 k "is_sort" fS fdS ["thing"] (spIs K P1 P2))
    (ml : mg "len" = none) (mi : mg "isinstance" = none) (mt : mg "tuple" = none) (me : mg "enumerate" = none) (g4 : mg "MOST_SORTS" = some (.int 4 t4)) : FnOk P w K mg base CX0 (k + 1) f fd ["thing"] (spPw K P1 P2) := by
  refine F.ok scPw (fun vs H Q E h => ?_) (fun cdv A outer s H vs Q E hr h => ?_)
  · obtain ⟨v, d, rfl, _⟩ := h
    rfl
  · obtain ⟨v, d, rfl, hd, hw, ht, q⟩ := h
    refine ⟨_, pss_cons (ps_if (PW.pt (pw_or (pt_not (pt_val (pe_callB call_isi (by rfl) mi PyProof.Rows.boot_isinstance (pa_cons (pv 0) (pa_cons (pe_bltn (v := .ty "tuple") (by rfl) mt PyProof.Rows.Boot.«tuple» rfl) pa_nil)))))
        (pw_or1 (pt_not (pt_chain op_le op_le pe_int (pe_callB call_len_seq (by rfl) ml PySem.boot_len (pa_cons (pv 0) pa_nil)) (pe_glob (v := .int 4) (by rfl) g4 ⟨_, rfl⟩)))))) (pss_one (ps_ret (pe_tup (pa_cons pe_str pa_nil)))) pss_nil)
      (pss_cons (ps_for PassesOwn.never rfl (Ex.pi_enumT (by rfl) me (pa_cons (pv 0) pa_nil)) (pg_tup rfl (pgs_cons (pg_name (i := 1) scPw.nd rfl (.inl rfl)) (pgs_cons (pg_name (i := 2) scPw.nd rfl (.inl rfl)) pgs_nil)))
        (pss_one (ps_if (pt_not (pt_val (pe_call S.ok hr (by rfl) S.g S.kp S.b .nil pass0 (pa_cons (pv 2) pa_nil)))) (pss_one (ps_ret (pe_tup (pa_cons pe_str (pa_cons (pv 1) pa_nil))))) pss_nil)))
      (pss_cons (ps_setLc (i := 3) (own := [("name", 4), ("codes", 5)]) (g := gTup K 2 (gCons (gName 4) (gCons (gName 5) gNil))) (tt := tYes) rfl scPw.nd rfl rfl (sw_true rfl rfl rfl (by decide +kernel)) (pi_tup (pv 0))
          (blkOk_by (own := [("name", 4), ("codes", 5)]) (N := nPw) (sc := defScope sPw) (by decide +kernel)) (fun _ _ _ _ _ => pg_tup rfl (pgs_cons (pg_name (i := 4) scPw.nd rfl (Or.inl rfl)) (pgs_cons (pg_name (i := 5) scPw.nd rfl (Or.inl rfl)) pgs_nil)))
          (fun _ _ _ _ _ => pts_nil) (fun _ _ _ _ _ => pv 4))
      (pss_cons (ps_for PassesOwn.never rfl (pi_enum (by rfl) me (pa_cons (pv 3) pa_nil)) (pg_tup rfl (pgs_cons (pg_name (i := 1) scPw.nd rfl (.inl rfl)) (pgs_cons (pg_name (i := 4) scPw.nd rfl (.inl rfl)) pgs_nil)))
        (pss_one (ps_if (pt_cmpR op_in_seq (pv 4) (pe_slice sl_list (pv 3) po_none (po_some (pv 1))) rfl) (pss_one (ps_ret (pe_tup (pa_cons pe_str (pa_cons (pv 1) pa_nil))))) pss_nil)))
      (pss_one (ps_ret pe_non))))), ?_⟩
    refine ⟨v, rfl, v, _, _, _, _, rfl, .ty _, ty_dp hd, kit_ty (kit_t d), _, rfl, ?_⟩
    -- ("plan",)
    have nay : wrongD d = .tuple [.str "plan"] → 1 ≤ sizeLine ∧ ∀ t, H t = none → Q (.ref t) (upd H t (.tup [.str "plan"])) := fun e => by
      refine ⟨by decide, fun t nt => q _ _ (.of ht (same_upd nt)) ?_⟩
      rw [e]
      exact .tup (SqT.of upd_same) (.cons (.str _) .nil)
    refine ite2 (fun e => ?_) (fun e => ?_)
    · refine iteT (nay ?_)
      have e2 : isT d = false := by simpa using e
      cases d with
      | tuple ds => cases e2
      | _ => rfl
    · obtain ⟨ds, rfl⟩ := tup_of (d := d) (by simpa using e)
      obtain ⟨a, xs, rfl, sq, hds⟩ := dp_tup hd
      have len_ := dpAll_len hds
      have wd : wrongD (.tuple ds) = wrongDs ds := rfl
      have off : ¬ (1 ≤ ds.length ∧ ds.length ≤ 4) → wrongD (.tuple ds) = .tuple [.str "plan"] := fun n => by
        rw [wd]
        unfold wrongDs
        rw [if_neg n]
      refine ⟨.ref a, rfl, a, xs, rfl, .inr sq, _, _, rfl, rfl, _, rfl, ite2 (fun e3 => ?_) (fun e3 => ⟨false, rfl, iteT (nay (off fun h => e3 (decide_eq_true (by omega))))⟩)⟩
      have l1 := of_decide_eq_true e3
      refine ⟨_, _, rfl, rfl, _, rfl, ite2 (fun e4 => nay (off fun h => ndT e4 (by omega))) (fun e4 => ?_)⟩
      have l2 := ndF e4
      have fit : 1 ≤ ds.length ∧ ds.length ≤ 4 := by omega
      have hw' : wts ds ≤ 100000 := by
        rw [wt] at hw
        omega
      refine ⟨.ref a, rfl, a, xs, rfl, sq, ?_⟩
      refine Ex.for_enumT (K := K) (a := a) (xs := xs) (fun i σ H' => ∃ y1 y2, σ = [some (.ref a), y1, y2, none, none, none] ∧ Tx P1 P2 H H' ∧ ∀ j, j < i → isSortD (ds.getD j .none) = true) ⟨none, none, rfl, .refl ht, fun j hj => absurd hj (Nat.not_lt_zero j)⟩
        (fun i σ H' _ h => ?_) (fun i x σ H' T hx h hT => ?_) (fun σ H' h => ?_)
      · obtain ⟨_, _, _, x1, _⟩ := h
        exact x1.2.sqT sq
      · obtain ⟨y1, y2, rfl, x1, all⟩ := h
        have x2 : Tx P1 P2 H (upd H' T (.tup [.int (i : Nat), x])) := x1.trans (.of x1.1 (same_upd hT))
        obtain ⟨dx, ex, hdx⟩ := dpAll_get (x2.2.dpAll ds xs hds) hx
        have gx : ds.getD i .none = dx := by
          rw [List.getD_eq_getElem?_getD, ex]
          rfl
        have hi : i < ds.length := (List.getElem?_eq_some_iff.mp ex).1
        have w1 := wt_mem (List.mem_of_getElem? ex)
        refine ⟨T, _, rfl, SqT.of upd_same, rfl, _, _, rfl, _, _, rfl, rfl, ?_⟩
        refine ⟨x, rfl, x, dx, rfl, hdx, by omega, x2.1, fun H3 x3 => ⟨_, rfl, ite2 (fun e5 => ?_) (fun e5 => ?_)⟩⟩
        · have e6 : isSortD dx = false := by simpa using e5
          refine ⟨_, rfl, by show 2 ≤ sizeLine; decide, fun t nt => q _ _ (x2.trans (x3.trans (.of x3.1 (same_upd nt)))) ?_⟩
          have e7 : wrongD (.tuple ds) = .tuple [.str "sort", .int i] := by
            rw [wd]
            unfold wrongDs
            rw [if_pos fit, firstK_some (k := i) hi (by unfold notSort; rw [gx, e6]; rfl) (fun j hj => by unfold notSort; rw [all j hj]; rfl)]
          rw [e7]
          exact .tup (SqT.of upd_same) (.cons (.str _) (.cons (.int _) .nil))
        · have e6 : isSortD dx = true := by simpa using e5
          refine ⟨_, _, rfl, x2.trans x3, fun j hj => ?_⟩
          by_cases z : j = i
          · rw [z, gx]
            exact e6
          · exact all j (by omega)
      · obtain ⟨y1, y2, rfl, x1, all⟩ := h
        rw [len_] at all
        have none1 : firstK ds.length (notSort ds) = none := firstK_none fun j hj => by
          unfold notSort
          rw [all j hj]
          rfl
        have wd2 : wrongD (.tuple ds) = (match firstK ds.length (twiceAt (ds.map nameOf)) with
            | some k => .tuple [.str "twice", .int k]
            | none => .none) := by
          rw [wd]
          unfold wrongDs
          rw [if_pos fit, none1] <;> rfl
        refine ⟨.ref a, rfl, a, rfl, ⟨xs, x1.2.sqT sq⟩, fun D nD => ?_⟩
        have nDa : ∀ {o}, H' a = some o → a ≠ D := fun h => ne_of_none h nD
        refine lc_tup (K := K) (a := a) (xs := xs) (fun j H3 => Same H' H3 ∧ H3 D = some (.lst (((ds.map nameOf).take j).map V.str))) ⟨same_upd nD, upd_same⟩ (fun j H3 _ h => ?_) (fun j x H3 hx h => ?_) (fun H3 h => ?_)
        · exact (x1.2.trans (.of h.1)).sqT sq
        · obtain ⟨h1, h2⟩ := h
          obtain ⟨dx, ex, hdx⟩ := dpAll_get ((x1.2.trans (.of h1)).dpAll ds xs hds) hx
          have hj : j < ds.length := (List.getElem?_eq_some_iff.mp ex).1
          have sx : isSortD dx = true := by
            have z := all j hj
            rw [List.getD_eq_getElem?_getD, ex] at z
            exact z
          obtain ⟨b, y, rfl, sq3⟩ := name_of hdx sx
          refine ⟨b, _, rfl, sq3, rfl, _, _, rfl, _, _, rfl, rfl, rfl, .str (nameOf dx), rfl, _, h2, ?_, ?_, ?_⟩
          · rw [List.length_map, List.length_take]
            exact small1000 (by omega)
          · intro b' o' e
            rw [upd_ne (ne_of_none e nD)]
            exact h1 _ _ e
          · rw [upd_same, List.take_add_one, List.map_append, List.getElem?_map, ex]
            rfl
        · obtain ⟨h1, h2⟩ := h
          rw [List.take_of_length_le (by rw [List.length_map]; omega)] at h2
          have x3 : Tx P1 P2 H H3 := x1.trans (.of x1.1 h1)
          refine ⟨.ref D, rfl, D, _, rfl, SqL.of h2, ?_⟩
          refine for_it (walk_enum (K := K) (a := D) (xs := (ds.map nameOf).map V.str)) (fun i σ H4 => ∃ z1 z2 z4, σ = [some (.ref a), z1, z2, some (.ref D), z4, none] ∧ Tx P1 P2 H H4 ∧ H4 D = some (.lst ((ds.map nameOf).map V.str)) ∧ ∀ j, j < i → twiceAt (ds.map nameOf) j = false)
            ⟨y1, y2, none, rfl, x3, h2, fun j hj => absurd hj (Nat.not_lt_zero j)⟩ (fun i σ H4 _ h => ?_) (fun i x σ H4 H5 hi h hy => ?_) (fun σ H4 h => ?_)
          · obtain ⟨_, _, _, _, _, hD, _⟩ := h
            exact SqL.of hD
          · obtain ⟨z1, z2, z4, rfl, x4, hD, all2⟩ := h
            obtain ⟨T, u1, u2, rfl, nT, rfl, e1, e2⟩ := hy
            obtain rfl : u1 = .int (i : Nat) := (Option.some.inj e1).symm
            rw [List.length_map, List.length_map] at hi
            have gn : (ds.map nameOf)[i]? = some ((ds.map nameOf).getD i "") := by
              rw [List.getD_eq_getElem?_getD, List.getElem?_eq_getElem (by rw [List.length_map]; exact hi)]
              rfl
            obtain rfl : u2 = .str ((ds.map nameOf).getD i "") := by
              have e2' : ((ds.map nameOf).map V.str)[i]? = some u2 := e2
              rw [List.getElem?_map, gn] at e2'
              exact (Option.some.inj e2').symm
            have sT := same_upd nT (o := .tup [.int (i : Nat), .str ((ds.map nameOf).getD i "")])
            have x5 := x4.trans (.of x4.1 sT)
            refine ⟨T, _, rfl, SqT.of upd_same, rfl, _, _, rfl, _, _, rfl, rfl, ?_⟩
            refine ⟨_, rfl, .ref D, rfl, _, rfl, _, rfl, D, _, rfl, SqL.of (sT _ _ hD), fun p np => ?_⟩
            have sP := same_upd np (o := .lst (cutV ((ds.map nameOf).map V.str) none (some ((i : Nat) : Int))))
            have x6 := x5.trans (.of x5.1 sP)
            have ecut : cutV ((ds.map nameOf).map V.str) none (some ((i : Nat) : Int)) = ((ds.map nameOf).take i).map V.str := by rw [cut_to, List.map_take]
            have atp : (upd (upd H4 T (.tup [.int (i : Nat), .str ((ds.map nameOf).getD i "")])) p (.lst (cutV ((ds.map nameOf).map V.str) none (some ((i : Nat) : Int))))) p = some (.lst (((ds.map nameOf).take i).map V.str)) := by rw [upd_same, ecut]
            refine ⟨p, _, rfl, .inl (SqL.of atp), rfl, flat_strs _, _, rfl, ite2 (fun e5 => ?_) (fun e5 => ?_)⟩
            · have e6 : twiceAt (ds.map nameOf) i = true := (inV_str _ _).symm.trans e5
              refine ⟨_, rfl, by show 2 ≤ sizeLine; decide, fun t nt => q _ _ (x6.trans (.of x6.1 (same_upd nt))) ?_⟩
              rw [wd2, firstK_some (k := i) hi e6 all2]
              exact .tup (SqT.of upd_same) (.cons (.str _) (.cons (.int _) .nil))
            · have e6 : twiceAt (ds.map nameOf) i = false := by
                have z := inV_str ((ds.map nameOf).getD i "") ((ds.map nameOf).take i)
                rw [z] at e5
                exact Bool.eq_false_iff.mpr e5
              refine ⟨_, _, _, rfl, x6, sP _ _ (sT _ _ hD), fun j hj => ?_⟩
              by_cases z : j = i
              · rw [z]
                exact e6
              · exact all2 j (by omega)
          · obtain ⟨z1, z2, z4, rfl, x4, hD, all2⟩ := h
            rw [List.length_map, List.length_map] at all2
            refine q _ _ x4 ?_
            rw [wd2, firstK_none all2]
            exact .non
end
end Cv
set_option Elab.async false
set_option linter.all false
set_option maxRecDepth 100000
set_option maxHeartbeats 4000000
namespace Cv
open PySem PySem.Spec PyProof.Rows L2
/-! ### an exception that is kept behind its except suite -/
/-- at a: an exception of the class C, its dict at d -/
def xob (a C : Addr) (d : Option Addr) : HO := .ext fun h => ∃ oe vs, h.get? a = some oe ∧ Zc (.ref C) d oe ∧ oe.data = .fields vs
theorem xob_ok {P : Program} {w : World} {H : Hp} {h : Heap} {a C : Addr} {d : Option Addr} {oe : Obj} {vs : Array Value} (e : h.get? a = some oe) (hz : Zc (.ref C) d oe) (hd : oe.data = .fields vs) : ObjOk P w H h a (xob a C d) :=
  ⟨⟨oe, vs, e, hz, hd⟩, ⟨oe, e⟩, fun h1 h2 ⟨o1, v1, g1, g2, g3⟩ k => ⟨o1, v1, k _ g1, g2, g3⟩⟩
theorem xob_at {P : Program} {w : World} {H : Hp} {h : Heap} {a C : Addr} {d : Option Addr} (hok : HOk P w H h) (e : H a = some (xob a C d)) : ∃ oe vs, h.get? a = some oe ∧ Zc (.ref C) d oe ∧ oe.data = .fields vs := by
  have x : ObjOk P w H h a (.ext fun h => ∃ oe vs, h.get? a = some oe ∧ Zc (.ref C) d oe ∧ oe.data = .fields vs) := hok a _ e
  exact x.1
section
variable {X : Cx} {pins : List (Addr × Obj)} {σ : L2.St} {H : Hp} {s : Shared}
theorem track {a C : Addr} {d : Option Addr} {oe : Obj} {vs : Array Value} (I : Inv X pins σ H s) (ha : s.heap.get? a = some oe) (hz : Zc (.ref C) d oe) (hd : oe.data = .fields vs) (na : H a = none) (nL : a ≠ X.env.locals)
    (nC : ∀ x c, X.env.cells.lookup x = some c → c ≠ a) (nP : ∀ p ∈ X.pn ++ pins, p.1 ≠ a) (n0 : X.s_0.heap.get? a = none) : Inv X pins σ (upd H a (xob a C d)) s := by
  have ne : ∀ {b : Addr} {o : HO}, H b = some o → b ≠ a := fun h => ne_of_none h na
  have up : ∀ {b : Addr}, b ≠ a → upd H a (xob a C d) b = H b := fun h => upd_ne h
  refine ⟨I.ok, I.os, I.bare, ?_, I.loc, I.cell, ?_, fun x c e => ?_, fun p hp => ?_, ?_, I.len⟩
  · refine ⟨I.base.keep, I.base.slot, fun b o e n hx => ?_, I.base.there, fun b xs e => ?_, fun b o u e => ?_, fun b ps e => ?_⟩
    · have hb : b ≠ a := fun z => by
        rw [z, n0] at e
        cases e
      rw [up hb]
      exact I.base.free b o e n hx
    · have h := I.base.tups b xs e
      rw [up (ne h)]
      exact h
    · have h := I.base.frzs b o u e
      rw [up (ne h)]
      exact h
    · obtain ⟨more, h⟩ := I.base.tbls b ps e
      exact ⟨more, by rw [up (ne h)]; exact h⟩
  · rw [up nL.symm]
    exact I.free
  · rw [up (nC x c e)]
    exact I.freeC x c e
  · obtain ⟨g1, g2, g3, g4, g5⟩ := I.pin p hp
    exact ⟨g1, by rw [up (nP p hp)]; exact g2, g3, g4, g5⟩
  · intro b o e
    by_cases hb : b = a
    · subst hb
      rw [upd_same] at e
      cases e
      exact xob_ok ha hz hd
    · rw [up hb] at e
      exact (I.hok b o e).stay (fun _ _ _ g => g) (fun c g => by rw [up (ne g)]; exact g) fun c xs g => by rw [up (ne g)]; exact g
end
/-- what the clause wishes: behind the suite the exception at a stays known -/
def wKeep (K : PySem.W.Frag) (c : Value) (i : Nat) (ts : Addr → Value → Option Addr → TS) (D : Ends) : WX := fun cls d σ H =>
  PySem.W.exmOne K cls c = some true ∧ ∃ C, cls = .ref C ∧ ∀ a, H a = none → ts a cls d { nx := fun σ2 H2 => D.nx (σ2.set i none) (upd H2 a (xob a C d)), rt := fun _ _ => False } (σ.set i (some (.ref a))) H
section
variable {X : Cx} {x n : Str} {c : Value} {i : Nat} {body su : List Stmt} {st0 : Stmt} {np pos pos2 : Pos} {tb : WX → TS} {ts : Addr → Value → Option Addr → TS}
theorem ps_try_keep (hst : X.stack = X.env :: X.outer) (hfr : X.env.frame = some X.env.locals) (hex : X.ex = []) (nd : X.N.Nodup) (hni : X.N[i]? = some n) (hnl : X.env.kindOf n = some .local) (hnm : Names X x c)
    (hbody : ∀ (W : WX) (pn : List (Addr × Obj)) (xe : Value → Shared → Prop), Takes (X.tr pn xe) W → PassesOwn (model X.prog X.w) X.A X.env xe → PSs (X.tr pn xe) body (tb W))
    (hsuite : ∀ (a : Addr) (oe : Obj) (cls : Value) (d : Option Addr) (pn : List (Addr × Obj)), Zc cls d oe → (∃ vs, oe.data = .fields vs) → PSs (X.suite a ((a, oe) :: pn)) (st0 :: su) (ts a cls d)) :
    PS X (.Try body [.ExceptHandler (some (.Name x np)) (some n) (st0 :: su) pos2] [] [] pos) (fun D σ H => tb (wKeep X.K c i ts D) D σ H) := by
  refine ⟨fun pins s σ H D I hread => ?_⟩
  have ok := I.ok
  have frA : X.A.frames = some (X.env :: X.outer) := ok.frames.trans (congrArg some hst)
  let after : Value → Shared → Prop := fun er sA =>
    wpAny (model X.prog X.w) X.A (noteFrame er X.env) (fun _ sB => wpAny (model X.prog X.w) X.A (setFlight er none) (fun _ sC => wpAny (model X.prog X.w) X.A
      (handleBy er X.env [.ExceptHandler (some (.Name x np)) (some n) (st0 :: su) pos2]) (SP X pins D) X.xe sC) X.xe sB) X.xe sA
  refine wpAny_Try_except (wpAny_mono ((hbody (wKeep X.K c i ts D) (X.pn ++ pins) after (fun u sE xx => ?_) PassesOwn.looking).run [] s σ H D (I.toTry after) hread) (fun fl sE hE => ?_) (fun _ _ z => z))
  · obtain ⟨a, B, sI, pins', σI, HI, cls, d, rfl, JT, grd, upT, skyT, na, osE, bareE, hmat, C, rfl, hnext⟩ := xx
    have J : Inv X pins σI HI sI := JT.ofTry ok
    show wpAny (model X.prog X.w) X.A (noteFrame (.ref a) X.env) _ _ _
    refine Sky.land (s := sE) (Z := Zc (.ref C) d) Zc.steady frA hfr (by rw [← hst]; exact skyT) fun hG flG upG => ?_
    have JG : Inv X pins σI HI { sE with heap := hG } := J.landed grd flG.1 (upT.trans upG) osE bareE
    have off : ∀ {hh : Heap}, HandSPX.FlyingZ B (X.env :: X.outer) a (Zc (.ref C) d) hh → a ∉ frs (X.env :: X.outer) := fun {hh} fl hm => by
      obtain ⟨o1, v1, g1, _, g3⟩ := fl.there
      obtain ⟨_, o2, g4, g5⟩ := fl.2.2.1.mem hm
      rw [g1] at g4
      cases g4
      exact g5 _ g3
    have offS : a ∉ frs X.stack := by rw [hst]; exact off flG
    have nL : a ≠ X.env.locals := fun z => off flG (List.mem_filterMap.mpr ⟨X.env, List.mem_cons_self, by rw [z]; exact hfr⟩)
    have nF : a ∉ X.fs := fun hm => by
      obtain ⟨e1, g1, g2⟩ := List.mem_filterMap.mp hm
      exact off flG (List.mem_filterMap.mpr ⟨e1, List.mem_cons_of_mem _ g1, g2⟩)
    have nB : ∀ {b : Addr} {o : Obj}, sI.heap.get? b = some o → b ≠ a := fun {b o} g z => by
      have g2 := grd b o g (by rw [z]; exact offS)
      rw [z, flG.2.1] at g2
      cases g2
    obtain ⟨oG, vG, gG, zG, dG⟩ := flG.there
    have SG := JG.suite gG dG na nL nF
    refine wpAny_handleBy_cons (codeAny_handlers_test ?_) (by intro z; cases z)
    have LT : PySem.W.Looks (model X.prog X.w) hG (typeOf (.ref a)) (.ref C) := fun A1 Q1 E1 s1 keep hq => wpAny_typeOf_ref (keep _ _ gG) (by rw [zG.1]; exact hq)
    have LM := PySem.W.exm_one (M := model X.prog X.w) JG.kIn LT hmat
    have load : ∀ {Q1 : Value → Shared → Prop} {E1 : Value → Shared → Prop}, Q1 c { sE with heap := hG } → wpAny (model X.prog X.w) (X.A.mark (some (.ref a))) (eval (.Name x np) X.env) Q1 E1 { sE with heap := hG } := fun {Q1 E1} hq => by
      obtain ⟨g1, g2, g3 | ⟨g3, g4, g5⟩⟩ := hnm
      · exact ld_glob (X := X.suite a ((a, oG) :: (X.pn ++ pins))) SG g1 g3 hq g2
      · exact ld_blt (X := X.suite a ((a, oG) :: (X.pn ++ pins))) SG g1 g3 g4 hq g5 g2
    refine load (LM.here (codeAny_handlers_suite_as (HandSPX.lands_againZ flG fun hK flK upK => ?_)))
    have JK : Inv X pins σI HI { sE with heap := hK } := J.landed grd flK.1 ((upT.trans upG).trans upK) osE bareE
    obtain ⟨oK, vK, gK, zK, dK⟩ := flK.there
    refine store_ok (X := X.suite a ((a, oK) :: (X.pn ++ pins))) (v := .ref a) (JK.suite gK dK na nL nF) nd hni (.inl hnl) rfl (fun sM SM => ?_) (.inr hnl)
    refine wpAny_mono ((hsuite a oK (.ref C) d (X.pn ++ pins) zK ⟨_, dK⟩).run [] sM _ HI _ SM (hnext a na)) (fun fl sN hN => ?_) (fun _ _ z => z.elim)
    cases fl with
    | next =>
      obtain ⟨σN, HN, SN, qN⟩ := hN
      obtain ⟨gN, nN, _⟩ := SN.pin (a, oK) (List.mem_append_left _ List.mem_cons_self)
      have JN : Inv X pins σN HN sN := SN.unsuite ok
      have TN : Inv X pins σN (upd HN a (xob a C d)) sN := track JN gN zK dK nN nL (fun y cc g => by
          obtain ⟨v, o, g1, _⟩ := J.cell y cc g
          exact nB g1) (fun p hp => nB (J.pin p hp).1) (by
          cases g0 : X.s_0.heap.get? a with
          | none => rfl
          | some o =>
            obtain ⟨o2, g2⟩ := J.base.there a o g0 (by rw [hex]; exact List.not_mem_nil)
            exact absurd rfl (nB g2))
      exact gone_ok TN nd hni hnl fun s9 J9 => ⟨_, _, J9, qN⟩
    | brk =>
      obtain ⟨_, _, _, z⟩ := hN
      exact z.elim
    | cont =>
      obtain ⟨_, _, _, z⟩ := hN
      exact z.elim
    | ret u =>
      obtain ⟨_, _, _, _, _, z⟩ := hN
      exact z.elim
  · cases fl with
    | next =>
      obtain ⟨σN, HN, JN, qN⟩ := hE
      exact wpAny_execs_nil ⟨σN, HN, JN.ofTry ok, qN⟩
    | brk =>
      obtain ⟨σN, HN, JN, qN⟩ := hE
      exact ⟨σN, HN, JN.ofTry ok, qN⟩
    | cont =>
      obtain ⟨σN, HN, JN, qN⟩ := hE
      exact ⟨σN, HN, JN.ofTry ok, qN⟩
    | ret u =>
      obtain ⟨vN, σN, HN, JN, rN, qN⟩ := hE
      exact ⟨vN, σN, HN, JN.ofTry ok, rN, qN⟩
end
end Cv
set_option Elab.async false
set_option linter.all false
set_option maxRecDepth 100000
set_option maxHeartbeats 4000000
namespace Cv
open PySem PySem.Spec PyProof.Rows L2
/-! ### the law's own def runs where nothing is being shown (no guards): its promise there alone -/
structure FnAt (A : Around) (P : Program) (w : World) (K : PySem.W.Frag) (mg : Str → Option Value) (base : Heap) (k : Nat) (f : Addr) (fd : FuncData) (ps : List Str) (sp : Sp) : Prop where
  run : ∀ (outer : List Env) (s : Shared) (H : Hp) (args : Args) (us : List Value) (vs : List V) (Q : VK) (E : XK), Room k A → Env0 P w K mg base A outer s H → BindsTo s fd args (ps.zip us) → Vals vs us → sp vs H Q E →
    codeAny (model P w) A (.call (.ref f) args) (CR CX0 outer P w H s Q E) s
section
variable {P : Program} {w : World} {K : PySem.W.Frag} {mg : Str → Option Value} {base : Heap} {A : Around}
theorem fn_at {x qual : Str} {st : Stmt} {f : Addr} {fd : FuncData} {N ps : List Str} {k : Nat} {sp : Sp} (F : Fun K x qual st f fd) (S : FnScope N ps (defScope st)) (hlen : ∀ vs H Q E, sp vs H Q E → vs.length = ps.length)
    (hwalk : ∀ (cdv : Value) (outer : List Env) (s : Shared) (H : Hp) (vs : List V) (Q : VK) (E : XK), Room k (A.deeper (envOfC qual (defScope st) s.heap.objs.size f cdv)) → sp vs H Q E →
      ∃ t, PSs (cxOf CX0 P w K mg base N qual (defScope st) f cdv A outer s H E).nox (defBody st) t ∧ t { nx := fun _ H2 => Q .non H2, rt := Q } (start N vs) H) : FnAt A P w K mg base (k + 1) f fd ps sp := by
  obtain ⟨oc, od, kV, doc, pm, an, cdv, ct, osl, rfl, lk, hcd⟩ := F.ex
  constructor
  intro outer s H args us vs Q E room env0 bind vals asked
  have whole : K.In s.heap := env0.mod.kin.keeps fun b o g => (env0.bs b o g).1
  have nolim : s.heap.NoLimit := env0.mod.nolimit.keeps fun b o g => (env0.bs b o g).1
  refine codeAny_call_function room.depth (whole _ _ lk) rfl S.co S.gen rfl (PySem.W.codeRec_of whole hcd) (bind _ _ _ _ (wpAny_newFunctionEnv_cells S.kind (fun y hy => ?_) fun env he s1 made => ?_))
  · rcases S.par y.1 (List.of_mem_zip (show (y.1, y.2) ∈ ps.zip us from hy)).1 with g | g
    · exact .inl g
    · exact .inr ⟨g, PySem.W.cellsFrom_some _ _ _ (.inl g)⟩
  · subst he
    obtain ⟨t, term, reads⟩ := hwalk cdv outer s H vs Q E (room.deeper _) asked
    have I0 : Inv (cxOf CX0 P w K mg base N qual (defScope st) f cdv A outer s H E) [] (start N vs) H s1 := inv_start S room.hd env0 (hlen _ _ _ _ asked) vals made
    refine ⟨nolim.keeps made.toInCall.keep, codeAny_func (wpAny_mono (term.nox.run [] s1 _ H _ I0 reads) (fun fl s2 hs => ?_) fun _ _ hs => hs)⟩
    cases fl with
    | ret u =>
      obtain ⟨v, _, H2, J, rv, g⟩ := hs
      exact ⟨v, H2, J.os, J.bare, J.base, J.hok, rv, g⟩
    | next =>
      obtain ⟨_, H2, J, g⟩ := hs
      exact ⟨.non, H2, J.os, J.bare, J.base, J.hok, rfl, g⟩
    | brk =>
      obtain ⟨_, _, _, g⟩ := hs
      exact g.elim
    | cont =>
      obtain ⟨_, _, _, g⟩ := hs
      exact g.elim
end
/-- nothing is tracked but the script, and the tables of the code objects cs -/
theorem law_atT {P : Program} {w : World} {K : PySem.W.Frag} {mg mb : Str → Option Value} {k : Nat} {fa a : Addr} {cs : List (Addr × Addr)} {fd : FuncData} {x : Str} {sp : Sp} {s1 : Shared} {vs : List Value} {ns : List Int}
    (kin : K.In s1.heap) (glob : s1.heap.Ns mainGlobals mg) (blt : s1.heap.Ns builtinsNs mb) (bltB : ∀ y : Str, y ≠ "__name__" → mb y = bootBuiltins y) (nolim : s1.heap.NoLimit) (hgen : s1.gens = #[])
    (tabs : ∀ q ∈ cs, PySem.W.CodeHd s1.heap q.1 q.2 ∧ s1.heap.get? q.2 = some { cls := .none, data := .fields #[] }) (offK : ∀ q ∈ cs, K.lookup q.2 = none)
    (bm : ∃ (m : Addr) (om : Obj), mg "__builtins__" = some (.ref m) ∧ m ≠ builtinsNs ∧ s1.heap.get? m = some om ∧ om.cls = .type "module" ∧ om.dict = some builtinsNs ∧ om.data = .plain)
    (ha : s1.heap.get? a = some { cls := .type "list", data := .seq vs.toArray }) (hin : IntsAre vs ns) (hlen : ns.length ≤ sizeLine) (room : Room k callerA)
    (F : ∀ base : Heap, K.In base → base.Ns mainGlobals mg → (∀ q ∈ cs, GxR.TabB base mg q.1 q.2) → FnAt callerA P w K mg base k fa fd [x] sp) (bind : ∀ (s : Shared) (u : Value), BindsTo s fd ⟨[u], []⟩ [(x, u)])
    (asked : ∀ H : Hp, (∀ q ∈ cs, H q.2 = some (.tbl #[])) → SqL K H a (ns.map V.int) → sp [.ref a] H (fun v _ => v = .bl true) fun _ _ _ => False) :
    codeAny (model P w) callerA (.call (.ref fa) ⟨[.ref a], []⟩) (fun r s2 => r = .ok (.ret (.bool true)) ∧ OldK s1.heap s2.heap ∧ s2.os = s1.os ∧ AllBare s2.gens) s1 := by
  have nvs : vs.length = ns.length := hin.length
  let ob : Obj := { cls := .type "list", data := .seq vs.toArray }
  have tabAt : ∀ {b : Addr}, b ∈ cs.map (·.2) → s1.heap.get? b = some { cls := .none, data := .fields #[] } ∧ K.lookup b = none := fun {b} g => by
    obtain ⟨q, hq, rfl⟩ := List.mem_map.mp g
    exact ⟨(tabs q hq).2, offK q hq⟩
  have na : a ∉ cs.map (·.2) := fun z => by
    have g := (tabAt z).1
    rw [ha] at g
    cases (show Data.seq vs.toArray _ = Data.fields #[] from congrArg Obj.data (Option.some.inj g))
  have main : ∀ H : Hp, (∀ q ∈ cs, H q.2 = some (.tbl #[])) → (∀ b, (H b = none ∧ b ∉ cs.map (·.2)) ∨ (b = a ∧ K.lookup a = none ∧ H b = some (.frz ob (.lst (ns.map V.int)))) ∨ (b ∈ cs.map (·.2) ∧ H b = some (.tbl #[]))) → SqL K H a (ns.map V.int) →
      codeAny (model P w) callerA (.call (.ref fa) ⟨[.ref a], []⟩) (fun r s2 => r = .ok (.ret (.bool true)) ∧ OldK s1.heap s2.heap ∧ s2.os = s1.os ∧ AllBare s2.gens) s1 := by
    intro H tb only seq
    have held : HOk P w H s1.heap := fun b o g => by
      rcases only b with ⟨z, _⟩ | ⟨rfl, _, z⟩ | ⟨m, z⟩
      · rw [z] at g
        cases g
      · rw [z] at g
        cases g
        exact ⟨ha, by rw [List.length_map]; exact hlen, vs, _, vals_ints hin, ha⟩
      · rw [z] at g
        cases g
        exact (tabAt m).1
    -- what is neither a list nor a table stays in sight
    have seen : ∀ {b : Addr} {o : Obj}, s1.heap.get? b = some o → (∀ us n, o.data ≠ .seq us n) → o.data ≠ .fields #[] → H b = none := fun {b o} g n1 n2 => by
      rcases only b with ⟨z, _⟩ | ⟨rfl, _, _⟩ | ⟨m, _⟩
      · exact z
      · rw [ha] at g
        cases g
        exact absurd rfl (n1 _ _)
      · rw [(tabAt m).1] at g
        cases g
        exact absurd rfl n2
    have put : ∀ {b : Addr} {m : Str → Option Value}, s1.heap.Ns b m → (hidT s1.heap H).Ns b m := fun {b m} h => by
      obtain ⟨o, es, ep, g, dat, more⟩ := h
      refine ⟨o, es, ep, hidT_get g (seen g (fun us n z => ?_) fun z => ?_), dat, more⟩ <;> (rw [dat] at z; cases z)
    have kinB : K.In (hidT s1.heap H) := fun b o g => hidT_get (kin b o g) (by
      rcases only b with ⟨z, _⟩ | ⟨rfl, z2, _⟩ | ⟨m, _⟩
      · exact z
      · rw [z2] at g
        cases g
      · rw [(tabAt m).2] at g
        cases g)
    have noLB : (hidT s1.heap H).NoLimit := by
      obtain ⟨mc, g1, g2⟩ := nolim
      exact ⟨mc, put g1, g2⟩
    have TB : ∀ q ∈ cs, GxR.TabB (hidT s1.heap H) mg q.1 q.2 := fun q hq => by
      obtain ⟨hd, emp⟩ := tabs q hq
      refine ⟨?_, ?_, fun z => ?_⟩
      · obtain ⟨o, us, file, tf, flags, tg, inF, text, tt, e1, r1, r2, r3, rest⟩ := hd
        refine ⟨o, us, file, tf, flags, tg, inF, text, tt, hidT_get e1 (seen e1 (fun us n z => ?_) fun z => ?_), r1, r2, r3, rest⟩
        · rw [r2] at z
          cases z
        · rw [r2] at z
          cases z
          simp at r3
      · obtain ⟨m, om, b1, b2, b3, b4, b5, b6⟩ := bm
        refine ⟨m, om, b1, b2, fun z => ?_, fun z => ?_, hidT_get b3 (seen b3 (fun us n z => ?_) fun z => ?_), b4, b5, b6⟩
        · obtain ⟨o, es, ep, g, dat, _⟩ := glob
          rw [z, g] at b3
          cases b3
          rw [dat] at b6
          cases b6
        · rw [z, emp] at b3
          cases b3
          cases b6
        · rw [b6] at z
          cases z
        · rw [b6] at z
          cases z
      · obtain ⟨o, es, ep, g, dat, _⟩ := glob
        rw [z, emp] at g
        cases g
        cases dat
    have env0 : Env0 P w K mg (hidT s1.heap H) callerA [] s1 H := by
      refine ⟨rfl, ⟨kinB, put glob, ⟨mb, put blt, bltB⟩, noLB⟩, fun b o g => of_hidT g, Nat.le_of_eq (hidT_size _ _), trivial, fun b hb => ?_, held, .of_eq hgen⟩
      exact absurd (show b ∈ ([] : List Addr) from hb) List.not_mem_nil
    refine codeAny_mono ((F _ kinB (put glob) TB).run [] s1 H ⟨[.ref a], []⟩ [.ref a] [.ref a] (fun v _ => v = .bl true) (fun _ _ _ => False) room env0 (bind s1 (.ref a)) (.cons rfl .nil) (asked H tb seq)) fun r s2 hr => ?_
    cases r with
    | error er => exact False.elim hr
    | ok fl =>
      cases fl with
      | ret u =>
        obtain ⟨v, H2, os2, bare2, un2, held2, rv, told⟩ := hr
        have told2 : v = .bl true := told
        subst told2
        obtain rfl : u = Value.bool true := rv
        have stays : ∀ b o, b ∉ cs.map (·.2) → s1.heap.get? b = some o → s2.heap.get? b = some o := fun b o nb g => by
          rcases only b with ⟨z, _⟩ | ⟨rfl, _, z⟩ | ⟨m, _⟩
          · exact un2.keep b o g z (fun hb => absurd (show b ∈ ([] : List Addr) from hb) List.not_mem_nil) List.not_mem_nil
          · have z2 := un2.frzs b ob _ z
            obtain ⟨g2, _⟩ := held2 b _ z2
            rw [ha] at g
            cases g
            exact g2
          · exact absurd m nb
        have grows : ∀ q ∈ cs, ∃ more : Array Value, s2.heap.get? q.2 = some { cls := .none, data := .fields more } := fun q hq => by
          obtain ⟨more, z⟩ := un2.tbls q.2 #[] (tb q hq)
          exact ⟨_, held2 q.2 _ z⟩
        refine ⟨rfl, ⟨fun b o g => ?_, fun b o g => ?_⟩, os2, bare2⟩
        · by_cases m : b ∈ cs.map (·.2)
          · obtain ⟨q, hq, rfl⟩ := List.mem_map.mp m
            obtain ⟨more, hm⟩ := grows q hq
            rw [(tabs q hq).2] at g
            cases g
            exact .inr (.inl ⟨((tabs q hq).1.tab (tabs q hq).2).isCodeTable, rfl, #[], more, rfl, by rw [Array.empty_append]; exact hm⟩)
          · exact .inl (stays b o m g)
        · by_cases m : b ∈ cs.map (·.2)
          · obtain ⟨q, hq, rfl⟩ := List.mem_map.mp m
            obtain ⟨more, hm⟩ := grows q hq
            exact ⟨_, hm⟩
          · exact ⟨o, stays b o m g⟩
      | next => exact False.elim hr
      | brk => exact False.elim hr
      | cont => exact False.elim hr
  have memq : ∀ q ∈ cs, q.2 ∈ cs.map (·.2) := fun q hq => List.mem_map.mpr ⟨q, hq, rfl⟩
  cases hk : K.lookup a with
  | none =>
    refine main (fun b => if b = a then some (.frz ob (.lst (ns.map V.int))) else if b ∈ cs.map (·.2) then some (.tbl #[]) else none) (fun q hq => ?_) (fun b => ?_) (.inl (.inr ⟨ob, if_pos rfl⟩))
    · have n1 : ¬ q.2 = a := fun z => na (by rw [← z]; exact memq q hq)
      exact (if_neg n1).trans (if_pos (memq q hq))
    · by_cases hb : b = a
      · exact .inr (.inl ⟨hb, hk, if_pos hb⟩)
      · by_cases hm : b ∈ cs.map (·.2)
        · exact .inr (.inr ⟨hm, (if_neg hb).trans (if_pos hm)⟩)
        · exact .inl ⟨(if_neg hb).trans (if_neg hm), hm⟩
  | some o =>
    have g := kin a o hk
    rw [ha] at g
    cases g
    refine main (fun b => if b ∈ cs.map (·.2) then some (.tbl #[]) else none) (fun q hq => if_pos (memq q hq)) (fun b => ?_) (.inr ⟨_, vs.toArray, _, hk, rfl, rfl, rfl, by rw [List.size_toArray, nvs]; exact hlen, by simpa using vals_ints hin⟩)
    by_cases hm : b ∈ cs.map (·.2)
    · exact .inr (.inr ⟨hm, if_pos hm⟩)
    · exact .inl ⟨if_neg hm, hm⟩
/-- the tables of the defs that the view holds -/
def TabsOf (q : Program) (K : PySem.W.Frag) (h : Heap) : Prop := ∀ (x : Str) (c T : Addr), ((PyProof.Rows.recsOf q).find? fun e => e.name == x).isSome = true → PySem.W.tabIn K x = some (c, T) → (PySem.W.CodeHd h c T ∧ h.get? T = some { cls := .none, data := .fields #[] }) ∧ K.lookup T = none
/-- what is known of the law's own def -/
def LawT (P : Program) (w : World) (K : PySem.W.Frag) (k n : Nat) (x : Str) (mg : Str → Option Value) (fa : Addr) (h : Heap) : Prop :=
  ∃ (fd : FuncData) (cs : List (Addr × Addr)) (sp : Sp), (∀ q ∈ cs, (PySem.W.CodeHd h q.1 q.2 ∧ h.get? q.2 = some { cls := .none, data := .fields #[] }) ∧ K.lookup q.2 = none) ∧ (∀ (s : Shared) (u : Value), BindsTo s fd ⟨[u], []⟩ [(x, u)]) ∧
    (∀ (H : Hp) (a : Addr) (ns : List Int), ns.length ≤ n → (∀ q ∈ cs, H q.2 = some (.tbl #[])) → SqL K H a (ns.map V.int) → sp [.ref a] H (fun v _ => v = .bl true) fun _ _ _ => False) ∧
    ∀ base : Heap, K.In base → base.Ns mainGlobals mg → (∀ q ∈ cs, GxR.TabB base mg q.1 q.2) → FnAt callerA P w K mg base k fa fd [x] sp
/-- the goal behind the head -/
theorem walk_atT {l : PySem.W.OpenLaw} {n k : Nat} {q : Program} {loose : List Str} {XP : (Str → Option Value) → Heap → Prop} {YP : World → Heap → Prop} {d : DefRec} {K : Params → PySem.W.Frag} {x : Str}
    (hn : l.most = some n) (hn2 : n ≤ sizeLine) (hdf : d.params.defaults = []) (room : Room k callerA) (hY : ∀ (w : World) (h : Heap), YP w h → (K w.params).In h) (hK : ∀ w : World, PySem.W.noTabs (K w.params) = true)
    (F : ∀ (w : World) (mg : Str → Option Value) (fa : Addr) (h : Heap), (K w.params).In h → h.Ns mainGlobals mg → mg d.name = some (.ref fa) → TabsOf q (K w.params) h → LawT l.prog w (K w.params) k n x mg fa h) :
    PySem.W.WalkO q loose XP YP l.row.toRowW d [] (fun f vs => PySem.call f vs) := by
  refine Att.attach_call hn hdf fun w s0 s1 mg mb fa o pm cd doc a vs ns G Y ho hd hcd hmg hobj hints hlen hgen => ?_
  have tabs : TabsOf q (K w.params) s1.heap := fun y c T e1 e2 => by
    obtain ⟨r, hr⟩ := Option.isSome_iff_exists.mp e1
    have z := PySem.W.tab_of G.T (hY w _ Y) hr e2
    refine ⟨z, ?_⟩
    cases e : (K w.params).lookup T with
    | none => rfl
    | some o =>
      have g := hY w _ Y T o e
      rw [z.2] at g
      cases g
      have h2 := List.all_eq_true.mp (hK w) _ (PySem.W.mem_of_lookupK e)
      exact absurd (show false = true from h2) Bool.false_ne_true
  obtain ⟨fd, cs, sp, t1, bind, asked, prom⟩ := F w mg fa _ (hY w _ Y) G.T.g hmg tabs
  exact law_atT (hY w _ Y) G.T.g G.T.b G.T.builtins G.T.nolimit hgen (fun q hq => (t1 q hq).1) (fun q hq => (t1 q hq).2) G.T.bmain hobj hints (Nat.le_trans hlen hn2) room prom bind fun H tb seq => asked H a ns hlen tb seq
section
variable {X : Cx}
theorem inst_at0 {pins : List (Addr × Obj)} {σ : L2.St} {H : Hp} {s : Shared} {a C : Addr} (I : Inv X pins σ H s) (ha : H a = some (xob a C none)) : ∃ oe : Obj, PySem.W.InstAt s.heap a oe C none := by
  obtain ⟨oe, vs, g, hz, dat⟩ := xob_at I.hok ha
  refine ⟨oe, ⟨g, hz.1, ?_, ?_⟩⟩
  · unfold PySem.W.notCls
    rw [dat] <;> rfl
  · rw [hz.2]
    exact trivial
def rIs0 (K : PySem.W.Frag) : List V → Hp → VK → Prop := fun xs H Q => ∃ (a C : Addr) (c : V) (u : Value) (b : Bool), xs = [.ref a, c] ∧ H a = some (xob a C none) ∧ ClsV c u ∧ ExcC K C ∧ PySem.W.kitOne K (.ref C) u = some b ∧ Q (.bl b) H
def rIs0T (K : PySem.W.Frag) : List V → Hp → VK → Prop := fun xs H Q => ∃ (a C tp : Addr) (cs : List V) (us : List Value) (b : Bool), xs = [.ref a, .ref tp] ∧ H a = some (xob a C none) ∧ H tp = some (.tup cs) ∧ Paired ClsV cs us ∧ ExcC K C ∧ PySem.W.kitAny K (.ref C) us = some b ∧ Q (.bl b) H
theorem kit_x {K : PySem.W.Frag} {a C : Addr} {oe : Obj} {od : Option Obj} (T : ExcC K C) : PySem.W.KitX K (.ref a) (.ref C) (fun h => PySem.W.InstAt h a oe C od) := by
  obtain ⟨cd, hc, _⟩ := PySem.W.any_some T.hd
  exact PySem.W.kitx_exc (by rw [hc]; rfl) T.hg T.hk T.hs T.ha T.hn T.ht T.hm
theorem call_is0 : CallR X (.builtin "isinstance") (rIs0 X.K) := by
  intro pins s σ H xs us Q I r h
  obtain ⟨a, C, c, u, b, rfl, ha, k, T, e, q⟩ := h
  obtain ⟨u1, u2, rfl, r1, r2⟩ := vals2 r
  obtain rfl := k.eq r2
  cases (show u1 = Value.ref a from r1)
  obtain ⟨oe, J⟩ := inst_at0 I ha
  exact PySem.W.kia_one (kit_x T) I.kIn J e (fun z => nomatch z) fun tk => ⟨.bl b, H, I.tok tk, rfl, q⟩
theorem call_is0T : CallR X (.builtin "isinstance") (rIs0T X.K) := by
  intro pins s σ H xs us Q I r h
  obtain ⟨a, C, tp, cs, ws, b, rfl, ha, hT, k, T, e, q⟩ := h
  obtain ⟨u1, u2, rfl, r1, r2⟩ := vals2 r
  cases (show u1 = Value.ref a from r1)
  cases (show u2 = Value.ref tp from r2)
  obtain ⟨oe, J⟩ := inst_at0 I ha
  obtain ⟨_, its, rv, ⟨oc, odd, dt, sl⟩, g1, g2, n, g3⟩ := (show ObjOk X.prog X.w H s.heap tp (.tup cs) from I.hok tp _ hT)
  obtain rfl := ClsV.all k rv
  simp only at g2 g3
  subst g2 g3
  exact PySem.W.kia_tup (kit_x T) I.kIn J g1 e (fun z => nomatch z) fun tk => ⟨.bl b, H, I.tok tk, rfl, q⟩
/-- repr(x), x a list or a tuple of data, where nothing is being shown -/
theorem call_reprD (hg : X.A.guards = some []) : CallR X (.builtin "repr") (fun xs H Q => ∃ (a : Addr) (d : PyData), xs = [.ref a] ∧ Dp X.K H (.ref a) d ∧ d.showable = true ∧ d.hasDict = false ∧ X.A.units + (d.depth + 1) < cLine ∧ d.shown.length ≤ sizeLine ∧ Q (.str d.shown) H) := by
  intro pins s σ H xs us Q I r h
  obtain ⟨a, d, rfl, hd, h1, h2, h3, h4, q⟩ := h
  obtain ⟨u, rfl, rx⟩ := vals1 r
  obtain rfl : u = Value.ref a := rx
  obtain ⟨as, rd⟩ := Dp.reads I d (.ref a) (.ref a) hd rfl
  exact repr_of_reads' rd h1 (PyData.noDict_hsm h2) hg h3 (fun _ _ g => g) (fun h' u tk hk => ⟨.str d.shown, H, I.kept (t' := tk) hk, ⟨u, rfl⟩, q⟩) h4
/-- what is never come to -/
theorem ps_nev {st : Stmt} : PS X st (fun _ _ _ => False) := ⟨fun _ _ _ _ _ _ h => h.elim⟩
theorem pss_nev {sts : List Stmt} : PSs X sts (fun _ _ _ => False) := ⟨fun _ _ _ _ _ _ h => h.elim⟩
theorem pe_nev {e : Expr} : PE X e (fun _ _ _ => False) := ⟨fun _ _ _ _ _ _ h => h.elim⟩
end
end Cv
set_option Elab.async false
set_option linter.all false
set_option maxRecDepth 100000
set_option maxHeartbeats 1000000
namespace Cv
open PySem PySem.Spec PyProof.Rows L2
/-! ### what is no plan is refused -/
/-- an own class of errors at C, without a value of its own -/
structure OwnX (K : PySem.W.Frag) (mg : Str → Option Value) (nm : Str) (C : Addr) : Prop where
  g : mg nm = some (.ref C)
  x : PySem.W.excIn K C [.type "ValueError", .type "Exception", .type "BaseException", .type "object"] "ValueError.__new__" = true
  k : PySem.W.keepIn K (.ref C) = true
  b : PySem.W.subIn K (.ref C) (.type "BaseException") = some true
  t : PySem.W.typeIn K (.ref C) = some (.type "type")
abbrev sNp : Stmt := topS 25
theorem scNp : FnScope ["plan"] ["plan"] (defScope sNp) := ⟨rfl, rfl, rfl, by decide +kernel, rfl, by decide +kernel, by decide +kernel⟩
/-- a plan is let by, another thing refused -/
def spNp (C : Addr) (K : PySem.W.Frag) (P1 P2 : Addr) : Sp := fun vs H Q E => ∃ (v : V) (d : PyData), vs = [v] ∧ Dp K H v d ∧ wt d ≤ 100000 ∧ Tabs P1 P2 H ∧
  (wrongD d = .none → ∀ H', Tx P1 P2 H H' → Q .non H') ∧ (wrongD d ≠ .none → ∀ H', Tx P1 P2 H H' → E (.ref C) none H')
section
variable {P : Program} {w : World} {K : PySem.W.Frag} {mg : Str → Option Value} {base : Heap}
theorem ok_np {f fW C P1 P2 : Addr} {fd fdW : FuncData} {k : Nat} (F : Fun K "need_plan" "need_plan" sNp f fd) (W : At P w K mg base CX0 k "plan_wrong" fW fdW ["thing"] (spPw K P1 P2)) (X : OwnX K mg "NoPlan" C) : FnOk P w K mg base (CX P w) (k + 1) f fd ["plan"] (spNp C K P1 P2) := by
  refine F.okX scNp (fun vs H Q E h => ?_) (fun cdv A outer s H vs Q E hr h => ?_)
  · obtain ⟨v, d, rfl, _⟩ := h
    rfl
  · obtain ⟨v, d, rfl, hd, hw, ht, q1, q2⟩ := h
    refine ⟨_, pss_one (ps_if (pt_cmpR op_notN (pe_call W.ok hr (by rfl) W.g W.kp W.b .nil pass0 (pa_cons (pv 0) pa_nil)) pe_non rfl)
      (pss_one (ps_raise rfl (takes_of rfl rfl rfl rfl) (pmk_own PySem.F.excBase_ValueError X.x X.g X.k (raises_own X.b X.t) (by rfl)))) pss_nil), ?_⟩
    refine ⟨v, rfl, v, d, rfl, hd, hw, ht, fun H' r x hr2 => ?_⟩
    refine ⟨rfl, _, rfl, ite2 (fun e => ?_) (fun e => ?_)⟩
    · refine q2 (fun z => ?_) H' x
      rw [z] at hr2
      cases hr2
      exact ndT e rfl
    · have e2 : r = .non := ndF e
      subst e2
      refine q1 ?_ H' x
      generalize wrongD d = y at hr2
      cases hr2
      rfl
/-! ### what asks for a plan first -/
/-- called with what is no plan -/
def spRef (C : Addr) (K : PySem.W.Frag) (P1 P2 : Addr) (us : List V) : Sp := fun vs H _ E => ∃ (v : V) (d : PyData), vs = v :: us ∧ Dp K H v d ∧ wt d ≤ 100000 ∧ Tabs P1 P2 H ∧ wrongD d ≠ .none ∧ ∀ H', Tx P1 P2 H H' → E (.ref C) none H'
/-- a def whose first row asks for a plan -/
theorem ok_ref {nm : Str} {st : Stmt} {rest : List Stmt} {N ps : List Str} {f fN C P1 P2 : Addr} {fd fdN : FuncData} {k : Nat} {us : List V} {p1 p2 p3 p4 : Pos} (F : Fun K nm nm st f fd) (S : FnScope ("plan" :: N) ("plan" :: ps) (defScope st))
    (hb : defBody st = .Expr (.Call (.Name "need_plan" p1) [.Name "plan" p2] [] p3) p4 :: rest) (hu : us.length = ps.length) (hn : Vis (defScope st) "plan") (hg : (defScope st).names.lookup ("need_plan" : Str) = some NameKind.globalImplicit)
    (G : FnOk P w K mg base (CX P w) k fN fdN ["plan"] (spNp C K P1 P2)) (kN : PySem.W.keepIn K (.ref fN) = true) (bN : Binds K fdN ["plan"] []) (gN : mg "need_plan" = some (.ref fN)) : FnOk P w K mg base (CX P w) (k + 1) f fd ("plan" :: ps) (spRef C K P1 P2 us) := by
  refine F.okX S (fun vs H Q E h => ?_) (fun cdv A outer s H vs Q E hr h => ?_)
  · obtain ⟨v, d, rfl, _⟩ := h
    rw [List.length_cons, List.length_cons, hu]
  · obtain ⟨v, d, rfl, hd, hw, ht, no, q⟩ := h
    rw [hb]
    refine ⟨_, pss_cons (ps_expr (pe_call (E := E) G hr hg gN kN bN .nil (passes_call (takes_of rfl rfl rfl rfl) (fun _ _ _ _ h => h)) (pa_cons (pv 0 (hv := hn)) pa_nil))) pss_nev, ?_⟩
    exact ⟨v, rfl, v, d, rfl, hd, hw, ht, fun z => absurd z no, fun _ => q⟩
end
end Cv
set_option Elab.async false
set_option linter.all false
set_option maxRecDepth 100000
set_option maxHeartbeats 1000000
namespace Cv
open PySem PySem.Spec PyProof.Rows L2
/-! ### each of the eight refuses what is no plan -/
abbrev sPt : Stmt := topS 46
theorem scPt : FnScope ["plan"] ["plan"] (defScope sPt) := ⟨rfl, rfl, rfl, by decide +kernel, rfl, by decide +kernel, by decide +kernel⟩
abbrev sRw : Stmt := topS 36
theorem scRw : FnScope ["plan", "thing"] ["plan", "thing"] (defScope sRw) := ⟨rfl, rfl, rfl, by decide +kernel, rfl, by decide +kernel, by decide +kernel⟩
abbrev sBw : Stmt := topS 37
theorem scBw : FnScope ["plan", "thing"] ["plan", "thing"] (defScope sBw) := ⟨rfl, rfl, rfl, by decide +kernel, rfl, by decide +kernel, by decide +kernel⟩
abbrev sGa : Stmt := topS 38
theorem scGa : FnScope ["plan", "record"] ["plan", "record"] (defScope sGa) := ⟨rfl, rfl, rfl, by decide +kernel, rfl, by decide +kernel, by decide +kernel⟩
abbrev sTa : Stmt := topS 40
theorem scTa : FnScope ["plan", "book"] ["plan", "book"] (defScope sTa) := ⟨rfl, rfl, rfl, by decide +kernel, rfl, by decide +kernel, by decide +kernel⟩
abbrev sFi : Stmt := topS 42
theorem scFi : FnScope ["plan", "book", "codes"] ["plan", "book", "codes"] (defScope sFi) := ⟨rfl, rfl, rfl, by decide +kernel, rfl, by decide +kernel, by decide +kernel⟩
abbrev sRr : Stmt := topS 54
theorem scRr : FnScope ["plan", "text"] ["plan", "text"] (defScope sRr) := ⟨rfl, rfl, rfl, by decide +kernel, rfl, by decide +kernel, by decide +kernel⟩
abbrev sRb : Stmt := topS 55
theorem scRb : FnScope ["plan", "text"] ["plan", "text"] (defScope sRb) := ⟨rfl, rfl, rfl, by decide +kernel, rfl, by decide +kernel, by decide +kernel⟩
/-- a def at its place, of errors -/
abbrev AtX (P : Program) (w : World) (K : PySem.W.Frag) (mg : Str → Option Value) (base : Heap) (k : Nat) (nm : Str) (f : Addr) (fd : FuncData) (ps : List Str) (sp : Sp) : Prop := At P w K mg base (CX P w) k nm f fd ps sp
section
variable {P : Program} {w : World} {K : PySem.W.Frag} {mg : Str → Option Value} {base : Heap}
theorem ok_pt {f fN C P1 P2 : Addr} {fd fdN : FuncData} {k : Nat} (F : Fun K "plan_text" "plan_text" sPt f fd) (A : AtX P w K mg base k "need_plan" fN fdN ["plan"] (spNp C K P1 P2)) : FnOk P w K mg base (CX P w) (k + 1) f fd ["plan"] (spRef C K P1 P2 []) :=
  ok_ref (ps := []) F scPt (by rfl) rfl (.inl rfl) rfl A.ok A.kp A.b A.g
theorem ok_rw {f fN C P1 P2 : Addr} {fd fdN : FuncData} {k : Nat} (F : Fun K "record_wrong" "record_wrong" sRw f fd) (A : AtX P w K mg base k "need_plan" fN fdN ["plan"] (spNp C K P1 P2)) : FnOk P w K mg base (CX P w) (k + 1) f fd ["plan", "thing"] (spRef C K P1 P2 [.non]) :=
  ok_ref (ps := ["thing"]) F scRw (by rfl) rfl (.inl rfl) rfl A.ok A.kp A.b A.g
theorem ok_bw {f fN C P1 P2 : Addr} {fd fdN : FuncData} {k : Nat} (F : Fun K "book_wrong" "book_wrong" sBw f fd) (A : AtX P w K mg base k "need_plan" fN fdN ["plan"] (spNp C K P1 P2)) : FnOk P w K mg base (CX P w) (k + 1) f fd ["plan", "thing"] (spRef C K P1 P2 [.non]) :=
  ok_ref (ps := ["thing"]) F scBw (by rfl) rfl (.inl rfl) rfl A.ok A.kp A.b A.g
theorem ok_ga {f fN C P1 P2 : Addr} {fd fdN : FuncData} {k : Nat} (F : Fun K "gaps" "gaps" sGa f fd) (A : AtX P w K mg base k "need_plan" fN fdN ["plan"] (spNp C K P1 P2)) : FnOk P w K mg base (CX P w) (k + 1) f fd ["plan", "record"] (spRef C K P1 P2 [.non]) :=
  ok_ref (ps := ["record"]) F scGa (by rfl) rfl (.inl rfl) rfl A.ok A.kp A.b A.g
theorem ok_ta {f fN C P1 P2 : Addr} {fd fdN : FuncData} {k : Nat} (F : Fun K "tallies" "tallies" sTa f fd) (A : AtX P w K mg base k "need_plan" fN fdN ["plan"] (spNp C K P1 P2)) : FnOk P w K mg base (CX P w) (k + 1) f fd ["plan", "book"] (spRef C K P1 P2 [.non]) :=
  ok_ref (ps := ["book"]) F scTa (by rfl) rfl (.inl rfl) rfl A.ok A.kp A.b A.g
theorem ok_fi {f fN C P1 P2 : Addr} {fd fdN : FuncData} {k : Nat} (F : Fun K "fitting" "fitting" sFi f fd) (A : AtX P w K mg base k "need_plan" fN fdN ["plan"] (spNp C K P1 P2)) : FnOk P w K mg base (CX P w) (k + 1) f fd ["plan", "book", "codes"] (spRef C K P1 P2 [.non, .non]) :=
  ok_ref (ps := ["book", "codes"]) F scFi (by rfl) rfl (.inl rfl) rfl A.ok A.kp A.b A.g
theorem ok_rr {f fN C P1 P2 : Addr} {fd fdN : FuncData} {k : Nat} (F : Fun K "read_record" "read_record" sRr f fd) (A : AtX P w K mg base k "need_plan" fN fdN ["plan"] (spNp C K P1 P2)) : FnOk P w K mg base (CX P w) (k + 1) f fd ["plan", "text"] (spRef C K P1 P2 [.str ""]) :=
  ok_ref (ps := ["text"]) F scRr (by rfl) rfl (.inl rfl) rfl A.ok A.kp A.b A.g
theorem ok_rb {f fN C P1 P2 : Addr} {fd fdN : FuncData} {k : Nat} (F : Fun K "read_book" "read_book" sRb f fd) (A : AtX P w K mg base k "need_plan" fN fdN ["plan"] (spNp C K P1 P2)) : FnOk P w K mg base (CX P w) (k + 1) f fd ["plan", "text"] (spRef C K P1 P2 [.str ""]) :=
  ok_ref (ps := ["text"]) F scRb (by rfl) rfl (.inl rfl) rfl A.ok A.kp A.b A.g
end
/-! ### refused -/
abbrev sRf : Stmt := topS 68
abbrev nRf : List Str := ["_law_which", "_law_thing", "_law_caught", "e"]
theorem scRf : FnScope nRf ["_law_which", "_law_thing"] (defScope sRf) := ⟨rfl, rfl, rfl, by decide +kernel, rfl, by decide +kernel, by decide +kernel⟩
/-- the classes: NoPlan at C, CountError at C0, the four others -/
structure Exn (K : PySem.W.Frag) (mg : Str → Option Value) (C C0 c1 c2 c3 c4 : Addr) : Prop where
  g0 : mg "CountError" = some (.ref C0)
  gC : mg "NoPlan" = some (.ref C)
  g1 : mg "NoBook" = some (.ref c1)
  g2 : mg "NoCodes" = some (.ref c2)
  g3 : mg "NoRecord" = some (.ref c3)
  g4 : mg "NoText" = some (.ref c4)
  mi : mg "isinstance" = none
  mv : mg "ValueError" = none
  ex : PySem.W.exmOne K (.ref C) (.ref C0) = some true
  xc : ExcC K C
  k4 : PySem.W.kitAny K (.ref C) [.ref c1, .ref c2, .ref c3, .ref c4] = some false
  kv : PySem.W.kitOne K (.ref C) (.type "ValueError") = some true
  kc : PySem.W.kitOne K (.ref C) (.ref C) = some true
theorem neI {n : Nat} {j : Int} (e : ¬ decide (V.int ((n : Nat) : Int) = V.int j) = true) : ((n : Nat) : Int) ≠ j := fun z => e (decide_eq_true (by rw [z]))
theorem no8 {n : Nat} (e0 : ¬ decide (V.int ((n : Nat) : Int) = V.int 0) = true) (e1 : ¬ decide (V.int ((n : Nat) : Int) = V.int 1) = true) (e2 : ¬ decide (V.int ((n : Nat) : Int) = V.int 2) = true) (e3 : ¬ decide (V.int ((n : Nat) : Int) = V.int 3) = true)
    (e4 : ¬ decide (V.int ((n : Nat) : Int) = V.int 4) = true) (e5 : ¬ decide (V.int ((n : Nat) : Int) = V.int 5) = true) (e6 : ¬ decide (V.int ((n : Nat) : Int) = V.int 6) = true) (e7 : ¬ decide (V.int ((n : Nat) : Int) = V.int 7) = true) : ¬ n < 8 := by
  have := neI e0
  have := neI e1
  have := neI e2
  have := neI e3
  have := neI e4
  have := neI e5
  have := neI e6
  have := neI e7
  omega
def spRf (K : PySem.W.Frag) (P1 P2 : Addr) : Sp := fun vs H Q _ => ∃ (n : Nat) (v : V) (d : PyData), vs = [.int n, v] ∧ n < 8 ∧ Dp K H v d ∧ wt d ≤ 100000 ∧ Tabs P1 P2 H ∧ wrongD d ≠ .none ∧ ∀ H', Tx P1 P2 H H' → Q (.bl true) H'
section
variable {P : Program} {w : World} {K : PySem.W.Frag} {mg : Str → Option Value} {base : Heap}
theorem ok_rf {f C C0 c1 c2 c3 c4 P1 P2 f0 f1 f2 f3 f4 f5 f6 f7 : Addr} {fd d0 d1 d2 d3 d4 d5 d6 d7 : FuncData} {k : Nat} (F : Fun K "_law_refused" "_law_refused" sRf f fd) (x : Exn K mg C C0 c1 c2 c3 c4)
    (A0 : AtX P w K mg base k "plan_text" f0 d0 ["plan"] (spRef C K P1 P2 [])) (A1 : AtX P w K mg base k "record_wrong" f1 d1 ["plan", "thing"] (spRef C K P1 P2 [.non])) (A2 : AtX P w K mg base k "book_wrong" f2 d2 ["plan", "thing"] (spRef C K P1 P2 [.non])) (A3 : AtX P w K mg base k "gaps" f3 d3 ["plan", "record"] (spRef C K P1 P2 [.non])) (A4 : AtX P w K mg base k "tallies" f4 d4 ["plan", "book"] (spRef C K P1 P2 [.non])) (A5 : AtX P w K mg base k "fitting" f5 d5 ["plan", "book", "codes"] (spRef C K P1 P2 [.non, .non])) (A6 : AtX P w K mg base k "read_record" f6 d6 ["plan", "text"] (spRef C K P1 P2 [.str ""])) (A7 : AtX P w K mg base k "read_book" f7 d7 ["plan", "text"] (spRef C K P1 P2 [.str ""])) : FnOk P w K mg base CX0 (k + 1) f fd ["_law_which", "_law_thing"] (spRf K P1 P2) := by
  refine F.ok scRf (fun vs H Q E h => ?_) (fun cdv A outer s H vs Q E hr h => ?_)
  · obtain ⟨n, v, d, rfl, _⟩ := h
    rfl
  · obtain ⟨n, v, d, rfl, hn, hd, hw, ht, no, q⟩ := h
    refine ⟨_, pss_cons (ps_set (i := 2) scRf.nd rfl (.inl rfl) pe_non)
      (pss_cons (ps_try_keep (i := 3) rfl rfl rfl scRf.nd rfl rfl ⟨rfl, by decide, .inl x.g0⟩
        (fun W pn xe tk _ => pss_cons (ps_if (pt_cmpR op_eq (pv 0) pe_int (nomark _)) (pss_one (ps_expr (pe_callS A0.ok hr (by rfl) A0.g A0.kp A0.b (fun σ => passAt tk σ) (pa_cons (pv 1) pa_nil)))) pss_nil)
          (pss_cons (ps_if (pt_cmpR op_eq (pv 0) pe_int (nomark _)) (pss_one (ps_expr (pe_callS A1.ok hr (by rfl) A1.g A1.kp A1.b (fun σ => passAt tk σ) (pa_cons (pv 1) (pa_cons pe_non pa_nil))))) pss_nil)
          (pss_cons (ps_if (pt_cmpR op_eq (pv 0) pe_int (nomark _)) (pss_one (ps_expr (pe_callS A2.ok hr (by rfl) A2.g A2.kp A2.b (fun σ => passAt tk σ) (pa_cons (pv 1) (pa_cons pe_non pa_nil))))) pss_nil)
          (pss_cons (ps_if (pt_cmpR op_eq (pv 0) pe_int (nomark _)) (pss_one (ps_expr (pe_callS A3.ok hr (by rfl) A3.g A3.kp A3.b (fun σ => passAt tk σ) (pa_cons (pv 1) (pa_cons pe_non pa_nil))))) pss_nil)
          (pss_cons (ps_if (pt_cmpR op_eq (pv 0) pe_int (nomark _)) (pss_one (ps_expr (pe_callS A4.ok hr (by rfl) A4.g A4.kp A4.b (fun σ => passAt tk σ) (pa_cons (pv 1) (pa_cons pe_non pa_nil))))) pss_nil)
          (pss_cons (ps_if (pt_cmpR op_eq (pv 0) pe_int (nomark _)) (pss_one (ps_expr (pe_callS A5.ok hr (by rfl) A5.g A5.kp A5.b (fun σ => passAt tk σ) (pa_cons (pv 1) (pa_cons pe_non (pa_cons pe_non pa_nil)))))) pss_nil)
          (pss_cons (ps_if (pt_cmpR op_eq (pv 0) pe_int (nomark _)) (pss_one (ps_expr (pe_callS A6.ok hr (by rfl) A6.g A6.kp A6.b (fun σ => passAt tk σ) (pa_cons (pv 1) (pa_cons pe_str pa_nil))))) pss_nil)
          (pss_one (ps_if (pt_cmpR op_eq (pv 0) pe_int (nomark _)) (pss_one (ps_expr (pe_callS A7.ok hr (by rfl) A7.g A7.kp A7.b (fun σ => passAt tk σ) (pa_cons (pv 1) (pa_cons pe_str pa_nil))))) pss_nil)))))))))
        (fun a oe cls d pn hz hf => pss_one (ps_set (i := 2) scRf.nd rfl (.inl rfl) (pv 3))))
      (pss_cons (ps_if (pt_val (pe_callB call_is0T (by rfl) x.mi PyProof.Rows.boot_isinstance (pa_cons (pv 2) (pa_cons (pe_tup (pa_cons (pe_glob (v := .ref c1) (by rfl) x.g1 rfl) (pa_cons (pe_glob (v := .ref c2) (by rfl) x.g2 rfl) (pa_cons (pe_glob (v := .ref c3) (by rfl) x.g3 rfl) (pa_cons (pe_glob (v := .ref c4) (by rfl) x.g4 rfl) pa_nil))))) pa_nil)))) (pss_one (ps_ret pe_bl)) pss_nil)
      (pss_one (ps_ret (pe_and (pe_callB call_is0 (by rfl) x.mi PyProof.Rows.boot_isinstance (pa_cons (pv 2) (pa_cons (pe_glob (v := .ref C) (by rfl) x.gC rfl) pa_nil)))
        (pe_one (pe_callB call_is0 (by rfl) x.mi PyProof.Rows.boot_isinstance (pa_cons (pv 2) (pa_cons (pe_bltn (v := .ty "ValueError") (by rfl) x.mv PyProof.Rows.Boot.«ValueError» rfl) pa_nil))))))))), ?_⟩
    refine ⟨.int n, rfl, rfl, _, rfl, ite2 (fun _ => ⟨v, rfl, v, d, rfl, hd, hw, ht, no, fun H' x1 => ?_⟩) (fun e0 => ⟨.int n, rfl, rfl, _, rfl, ite2 (fun _ => ⟨v, rfl, v, d, rfl, hd, hw, ht, no, fun H' x1 => ?_⟩) (fun e1 => ⟨.int n, rfl, rfl, _, rfl, ite2 (fun _ => ⟨v, rfl, v, d, rfl, hd, hw, ht, no, fun H' x1 => ?_⟩) (fun e2 => ⟨.int n, rfl, rfl, _, rfl, ite2 (fun _ => ⟨v, rfl, v, d, rfl, hd, hw, ht, no, fun H' x1 => ?_⟩) (fun e3 => ⟨.int n, rfl, rfl, _, rfl, ite2 (fun _ => ⟨v, rfl, v, d, rfl, hd, hw, ht, no, fun H' x1 => ?_⟩) (fun e4 => ⟨.int n, rfl, rfl, _, rfl, ite2 (fun _ => ⟨v, rfl, v, d, rfl, hd, hw, ht, no, fun H' x1 => ?_⟩) (fun e5 => ⟨.int n, rfl, rfl, _, rfl, ite2 (fun _ => ⟨v, rfl, v, d, rfl, hd, hw, ht, no, fun H' x1 => ?_⟩) (fun e6 => ⟨.int n, rfl, rfl, _, rfl, ite2 (fun _ => ⟨v, rfl, v, d, rfl, hd, hw, ht, no, fun H' x1 => ?_⟩) (fun e7 => absurd hn (no8 e0 e1 e2 e3 e4 e5 e6 e7))⟩)⟩)⟩)⟩)⟩)⟩)⟩)⟩
    all_goals
      refine ⟨x.ex, C, rfl, fun a na => ⟨.ref a, rfl, ?_⟩⟩
      have ha : (upd H' a (xob a C none)) a = some (xob a C none) := upd_same
      refine ⟨.ref a, rfl, (by show 4 ≤ sizeLine; decide), fun tp ntp => ?_⟩
      have s3 := same_upd ntp (o := .tup [.ref c1, .ref c2, .ref c3, .ref c4])
      refine ⟨a, C, tp, _, _, false, rfl, s3 _ _ ha, upd_same, .cons (.own _) (.cons (.own _) (.cons (.own _) (.cons (.own _) .nil))), x.xc, x.k4, false, rfl, iteF ?_⟩
      refine ⟨.ref a, rfl, a, C, _, _, true, rfl, s3 _ _ ha, .own _, x.xc, x.kc, true, rfl, iteT ?_⟩
      refine ⟨.ref a, rfl, a, C, _, _, true, rfl, s3 _ _ ha, .ty _, x.xc, x.kv, ?_⟩
      have x2 := x1.trans (.of x1.1 (same_upd na (o := xob a C none)))
      exact q _ (x2.trans (.of x2.1 s3))
end
end Cv
set_option Elab.async false
set_option linter.all false
set_option maxRecDepth 100000
set_option maxHeartbeats 1000000
namespace Cv
open PySem PySem.Spec PyProof.Rows L2
/-! ### the law's own look: a word -/
abbrev sLw : Stmt := topS 63
abbrev nLw : List Str := ["_law_thing", "_law_most", "_law_sign"]
theorem scLw : FnScope nLw ["_law_thing", "_law_most"] (defScope sLw) := ⟨rfl, rfl, rfl, by decide +kernel, rfl, by decide +kernel, by decide +kernel⟩
def spLw (K : PySem.W.Frag) : Sp := fun vs H Q _ => ∃ (v : V) (m : Nat) (d : PyData), vs = [v, .int m] ∧ Dp K H v d ∧ pl d = true ∧ wt d ≤ 100000 ∧ ∀ H', Same H H' → Q (.bl (isWordD m d)) H'
theorem strs_dp {K : PySem.W.Frag} {H : Hp} : ∀ zs : List Str, DpAll K H (zs.map V.str) (zs.map PyData.str)
  | [] => .nil
  | z :: r => .cons (.str z) (strs_dp r)
theorem strs_lay : ∀ zs : List Str, (∀ z ∈ zs, pl (.str z) = true) → PyData.canLayAll0 (zs.map PyData.str) = true ∧ PyData.depthAll (zs.map PyData.str) ≤ 1
  | [], _ => by simp [PyData.canLayAll0, PyData.depthAll]
  | z :: r, h => by
    obtain ⟨h1, h2⟩ := strs_lay r fun x hx => h x (List.mem_cons_of_mem _ hx)
    have h3 := h z List.mem_cons_self
    have h4 : PyData.strOk z = true := by
      have h5 : (z.cps.toList.all fun ch => decide (ch < 1000)) = true := by simpa only [pl] using h3
      unfold PyData.strOk
      rw [← Array.all_toList, List.all_eq_true]
      intro ch hc
      have := of_decide_eq_true (List.all_eq_true.mp h5 ch hc)
      exact decide_eq_true (by omega)
    refine ⟨by simp [PyData.canLayAll0, PyData.canLay0, h1, h4], ?_⟩
    simp only [List.map_cons, PyData.depthAll, PyData.depth]
    omega
theorem strs_shaped {zs : List Str} (h : ∀ z ∈ zs, pl (.str z) = true) : SeqAt.shaped (.list (zs.map PyData.str)) = true := by
  obtain ⟨h1, h2⟩ := strs_lay zs h
  unfold SeqAt.shaped
  rw [Bool.and_eq_true]
  refine ⟨by simp only [PyData.canLay0]; exact h1, decide_eq_true ?_⟩
  simp only [PyData.depth]
  omega
theorem eqv_nilS : ∀ cs : List Str, PyData.eqv (.list (cs.map PyData.str)) (.list []) = decide (cs = [])
  | [] => by simp [PyData.eqv, PyData.eqvAll]
  | x :: r => by simp [PyData.eqv, PyData.eqvAll]
theorem alph : (Str.ofString "abcdefghijklmnopqrstuvwxyz").cps.toList = List.range' 97 26 := by decide +kernel
theorem alph_in (ch : Nat) : decide (ch ∈ (Str.ofString "abcdefghijklmnopqrstuvwxyz").cps.toList) = isL ch := by
  rw [alph, Bool.eq_iff_iff]
  unfold isL
  rw [Bool.and_eq_true, decide_eq_true_iff, decide_eq_true_iff, decide_eq_true_iff, List.mem_range'_1]
  omega
theorem len0 {z : Str} (h : z.length = 0) : z = "" := by
  obtain ⟨cps⟩ := z
  have h2 : cps.size = 0 := h
  have h3 : cps = #[] := Array.eq_empty_of_size_eq_zero h2
  rw [h3]
  rfl
section
variable {P : Program} {w : World} {K : PySem.W.Frag} {mg : Str → Option Value} {base : Heap}
theorem ok_lw {f : Addr} {fd : FuncData} {k : Nat} (F : Fun K "_law_is_word" "_law_is_word" sLw f fd) (ml : mg "len" = none) (mi : mg "isinstance" = none) (ms : mg "str" = none) : FnOk P w K mg base CX0 (k + 1) f fd ["_law_thing", "_law_most"] (spLw K) := by
  refine F.ok scLw (fun vs H Q E h => ?_) (fun cdv A outer s H vs Q E hr h => ?_)
  · obtain ⟨v, m, d, rfl, _⟩ := h
    rfl
  · obtain ⟨v, m, d, rfl, hd, hp, hw, q⟩ := h
    refine ⟨_, pss_cons (ps_if (PW.pt (pw_or (pt_not (pt_val (pe_callB call_isi (by rfl) mi PyProof.Rows.boot_isinstance (pa_cons (pv 0) (pa_cons (pe_bltn (v := .ty "str") (by rfl) ms PyProof.Rows.Boot.«str» rfl) pa_nil)))))
        (pw_or (pt_cmpR op_eq (pv 0) pe_str (nomark _)) (pw_or1 (pt_cmpR op_gt (pe_callB call_len_str (by rfl) ml PySem.boot_len (pa_cons (pv 0) pa_nil)) (pv 1) (nomark _)))))) (pss_one (ps_ret pe_bl)) pss_nil)
      (pss_one (ps_ret (pe_cmpR (op_eqD hr.units) (pe_lc (own := [("_law_sign", 2)]) (g := gName 2) (by rfl) scLw.nd (pi_str (pv 0)) (blkOk_by (own := [("_law_sign", 2)]) (N := nLw) (sc := defScope sLw) (by decide +kernel)) (fun _ _ _ _ _ => pg_name (i := 2) scLw.nd rfl (Or.inl rfl)) (fun _ _ _ _ _ => pts_one (pt_cmpR op_notIn_sign (pv 2) pe_str rfl)) (fun _ _ _ _ _ => pv 2)) (pe_lst pa_nil) (nomark _)))), ?_⟩
    refine ⟨v, rfl, v, _, _, _, _, rfl, .ty _, ty_dp hd, kit_ty (kit_s d), _, rfl, ?_⟩
    have nay : isWordD m d = false → Q (.bl false) H := fun e => by
      have q2 := q H (Same.refl _)
      rw [e] at q2
      exact q2
    refine ite2 (fun e => ?_) (fun e => ?_)
    · refine iteT (nay ?_)
      have e2 : isS d = false := by simpa using e
      cases d with
      | str z => cases e2
      | _ => rfl
    · have e2 : isS d = true := by simpa using e
      cases d with
      | str z =>
        cases hd
        have hz : z.length ≤ 10000 := by
          rw [wt] at hw
          omega
        have hz2 : z.length ≤ sizeLine := Nat.le_trans hz (by decide)
        have e9 : isWordD m (.str z) = (decide (1 ≤ z.length) && (decide (z.length ≤ m) && z.cps.toList.all isL)) := rfl
        have len_ : z.length = z.cps.toList.length := by simp [Str.length]
        refine ⟨.str z, rfl, rfl, _, rfl, ite2 (fun e3 => iteT (nay ?_)) (fun e3 => ?_)⟩
        · have e4 := of_decide_eq_true e3
          have e5 : z = "" := V.str.inj e4
          rw [e5]
          rfl
        · have e4 : z.length ≠ 0 := fun h0 => e3 (decide_eq_true (by rw [len0 h0]))
          refine ⟨.str z, rfl, z, rfl, hz2, .int m, rfl, _, _, rfl, rfl, _, rfl, ite2 (fun e5 => nay ?_) (fun e5 => ?_)⟩
          · have e6 := of_decide_eq_true e5
            rw [e9, decide_eq_false (show ¬ z.length ≤ m by omega), Bool.false_and, Bool.and_false]
          · have e6 : ¬ ((m : Int) < z.length) := fun h => e5 (decide_eq_true h)
            refine ⟨.str z, rfl, z, rfl, fun D nD => ?_⟩
            refine lc_it (walk_str (z := z)) (Grow H D (fil z.cps.toList (fun ch => !isL ch) (fun ch => V.str ⟨#[ch]⟩))) (grow0 nD fil0) (fun _ _ _ _ => trivial) (fun i x H1 H2 hi g y => ?_) (fun H1 g => ?_)
            · obtain ⟨rfl, ch, hc, rfl⟩ := y
              have hc' : z.cps.toList[i]? = some ch := by rw [Array.getElem?_toList]; exact hc
              refine ⟨rfl, _, rfl, ch, _, rfl, rfl, _, rfl, ite2 (fun e7 => ?_) (fun e7 => ?_)⟩
              · rw [alph_in] at e7
                exact ⟨_, rfl, put nD g (Same.refl _) (Nat.lt_of_le_of_lt fil_len (by rw [← len_]; exact Nat.lt_of_le_of_lt hz (by decide))) (fil_yes hc' e7)⟩
              · rw [alph_in] at e7
                exact left g (Same.refl _) (fil_no hc' (Bool.eq_false_iff.mpr e7))
            · have g2 := g.2
              rw [fil_all (by simp)] at g2
              have eD : (z.cps.toList.filter fun ch => !isL ch).map (fun ch => V.str ⟨#[ch]⟩) = ((z.cps.toList.filter fun ch => !isL ch).map fun ch => (⟨#[ch]⟩ : Str)).map V.str := by
                rw [List.map_map]
                rfl
              rw [eD] at g2
              refine ⟨Nat.zero_le _, fun D2 nD2 => ?_⟩
              have s2 := same_upd nD2 (o := .lst [])
              refine ⟨_, _, .lst (SqL.of (s2 _ _ g2)) (strs_dp _), .lst (SqL.of upd_same) .nil, strs_shaped fun y hy => ?_, ints_shaped [], ?_⟩
              · obtain ⟨ch, hc, rfl⟩ := List.mem_map.mp hy
                have h5 : (z.cps.toList.all fun ch => decide (ch < 1000)) = true := by simpa only [pl] using hp
                have := List.all_eq_true.mp h5 ch ((List.mem_filter.mp hc).1)
                simp only [pl, List.all_cons, List.all_nil, Bool.and_true]
                exact this
              · rw [eqv_nilS]
                have q2 := q _ (g.1.trans s2)
                rw [e9, decide_eq_true (show 1 ≤ z.length by omega), decide_eq_true (show z.length ≤ m by omega), Bool.true_and, Bool.true_and] at q2
                have e8 : decide (((z.cps.toList.filter fun ch => !isL ch).map fun ch => (⟨#[ch]⟩ : Str)) = []) = z.cps.toList.all isL := by
                  rw [Bool.eq_iff_iff, decide_eq_true_iff, List.map_eq_nil_iff, List.filter_eq_nil_iff, List.all_eq_true]
                  exact ⟨fun h x hx => by simpa using h x hx, fun h x hx => by simp [h x hx]⟩
                rw [e8]
                exact q2
      | _ => cases e2
end
end Cv
set_option Elab.async false
set_option linter.all false
set_option maxRecDepth 100000
set_option maxHeartbeats 1000000
namespace Cv
open PySem PySem.Spec PyProof.Rows L2
/-! ### the law's own look: a sort -/
abbrev sLs : Stmt := topS 64
abbrev nLs : List Str := ["_law_thing", "_law_codes_here", "_law_code", "_law_k"]
theorem scLs : FnScope nLs ["_law_thing"] (defScope sLs) := ⟨rfl, rfl, rfl, by decide +kernel, rfl, by decide +kernel, by decide +kernel⟩
def spLs (K : PySem.W.Frag) : Sp := fun vs H Q _ => ∃ (v : V) (d : PyData), vs = [v] ∧ Dp K H v d ∧ pl d = true ∧ wt d ≤ 100000 ∧ ∀ H', Same H H' → Q (.bl (isSortD d)) H'
theorem two_six {n : Nat} : inV (.int n) [.int 2, .int 3, .int 4, .int 5, .int 6] = (decide (2 ≤ n) && decide (n ≤ 6)) := by
  rw [Bool.eq_iff_iff, Bool.and_eq_true, decide_eq_true_iff, decide_eq_true_iff]
  unfold inV
  rw [List.any_eq_true]
  constructor
  · rintro ⟨x, hx, e⟩
    simp only [List.mem_cons, List.mem_nil_iff, or_false] at hx
    rcases hx with rfl | rfl | rfl | rfl | rfl <;> (simp only [eqV, beq_iff_eq] at e; omega)
  · intro h
    have h2 : n = 2 ∨ n = 3 ∨ n = 4 ∨ n = 5 ∨ n = 6 := by omega
    rcases h2 with rfl | rfl | rfl | rfl | rfl
    · exact ⟨.int 2, by simp, by decide⟩
    · exact ⟨.int 3, by simp, by decide⟩
    · exact ⟨.int 4, by simp, by decide⟩
    · exact ⟨.int 5, by simp, by decide⟩
    · exact ⟨.int 6, by simp, by decide⟩
theorem notT {b : Bool} (h : (!b) = true) : b = false := by
  cases b
  · rfl
  · cases h
theorem notF {b : Bool} (h : ¬ (!b) = true) : b = true := by
  cases b
  · exact absurd rfl h
  · rfl
theorem nodup_twice {zs : List Str} : (∀ k, k < zs.length → twiceAt zs k = false) ↔ zs.Nodup := by
  unfold List.Nodup
  rw [List.pairwise_iff_getElem]
  constructor
  · intro h i j hi hj hij e
    have z := of_decide_eq_false (show decide (zs.getD j "" ∈ zs.take j) = false from h j hj)
    refine z ?_
    rw [List.getD_eq_getElem?_getD, List.getElem?_eq_getElem hj, Option.getD_some, ← e]
    exact List.mem_take_iff_getElem.mpr ⟨i, by omega, rfl⟩
  · intro h k hk
    refine decide_eq_false fun m => ?_
    rw [List.getD_eq_getElem?_getD, List.getElem?_eq_getElem hk, Option.getD_some] at m
    obtain ⟨i, hi, e⟩ := List.mem_take_iff_getElem.mp m
    exact h i k (by omega) hk (by omega) e
theorem twice_nil {zs : List Str} : decide ((((List.range zs.length).filter (twiceAt zs)).map Int.ofNat) = []) = decide zs.Nodup := by
  rw [Bool.eq_iff_iff, decide_eq_true_iff, decide_eq_true_iff, List.map_eq_nil_iff, List.filter_eq_nil_iff, ← nodup_twice]
  exact ⟨fun h k hk => Bool.eq_false_iff.mpr (h k (List.mem_range.mpr hk)), fun h k hk => by rw [h k (List.mem_range.mp hk)]; exact Bool.false_ne_true⟩
theorem range_get {n i : Nat} (h : i < n) : (List.range n)[i]? = some i := by
  rw [List.getElem?_eq_getElem (by rw [List.length_range]; exact h), List.getElem_range]
section
variable {P : Program} {w : World} {K : PySem.W.Frag} {mg : Str → Option Value} {base : Heap}
theorem ok_lsrt {f fW : Addr} {fd fdW : FuncData} {k : Nat} (F : Fun K "_law_is_sort" "_law_is_sort" sLs f fd) (W : At P w K mg base CX0 k "_law_is_word" fW fdW ["_law_thing", "_law_most"] (spLw K)) (ml : mg "len" = none) (mi : mg "isinstance" = none) (mt : mg "tuple" = none) (ma : mg "all" = none) (mr : mg "range" = none) : FnOk P w K mg base CX0 (k + 1) f fd ["_law_thing"] (spLs K) := by
  refine F.ok scLs (fun vs H Q E h => ?_) (fun cdv A outer s H vs Q E hr h => ?_)
  · obtain ⟨v, d, rfl, _⟩ := h
    rfl
  · obtain ⟨v, d, rfl, hd, hp, hw, q⟩ := h
    refine ⟨_, pss_cons (ps_if (PW.pt (pw_or (pt_not (pt_val (pe_callB call_isi (by rfl) mi PyProof.Rows.boot_isinstance (pa_cons (pv 0) (pa_cons (pe_bltn (v := .ty "tuple") (by rfl) mt PyProof.Rows.Boot.«tuple» rfl) pa_nil)))))
        (pw_or (pt_cmpR op_ne (pe_callB call_len_seq (by rfl) ml PySem.boot_len (pa_cons (pv 0) pa_nil)) pe_int (nomark _)) (pw_or1 (pt_not (pt_val (pe_call W.ok hr (by rfl) W.g W.kp W.b .nil pass0 (pa_cons (pe_ix ix_tup (pv 0) pe_int (fun _ _ => rfl)) (pa_cons pe_int pa_nil)))))))) ) (pss_one (ps_ret pe_bl)) pss_nil)
      (pss_cons (ps_set (i := 1) scLs.nd rfl (.inr rfl) (pe_ix ix_tup (pv 0) pe_int (fun _ _ => rfl)))
      (pss_cons (ps_if (PW.pt (pw_or (pt_not (pt_val (pe_callB call_isi (by rfl) mi PyProof.Rows.boot_isinstance (pa_cons (pv 1) (pa_cons (pe_bltn (v := .ty "tuple") (by rfl) mt PyProof.Rows.Boot.«tuple» rfl) pa_nil)))))
        (pw_or1 (pt_cmpR op_notIn_seq (pe_callB call_len_seq (by rfl) ml PySem.boot_len (pa_cons (pv 1) pa_nil)) (pe_lst (pa_cons pe_int (pa_cons pe_int (pa_cons pe_int (pa_cons pe_int (pa_cons pe_int pa_nil)))))) rfl)))) (pss_one (ps_ret pe_bl)) pss_nil)
      (pss_cons (ps_if (pt_not (pt_val (pe_callB (cr_all rfl) (by rfl) ma (by decide +kernel) (pa_cons (pe_lc (own := [("_law_code", 2)]) (g := gName 2) (tt := tYes) (by rfl) scLs.nd (pi_tup (pv 1)) (blkOk_by (own := [("_law_code", 2)]) (N := nLs) (sc := defScope sLs) (by decide +kernel)) (fun _ _ _ _ _ => pg_name (i := 2) scLs.nd rfl (Or.inl rfl)) (fun _ _ _ _ _ => pts_nil) (fun _ _ _ _ _ => pe_call W.ok hr (by rfl) W.g W.kp W.b .nil pass0 (pa_cons (pv 2) (pa_cons pe_int pa_nil)))) pa_nil)))) (pss_one (ps_ret pe_bl)) pss_nil)
      (pss_one (ps_ret (pe_cmpR (op_eqD hr.units) (pe_lc (own := [("_law_k", 3)]) (g := gName 3) (tt := tTest (tOp (rIn K false) (tOp (rIxT K) (tVar 1) (tVar 3)) (tSl (rSlG K) (tVar 1) tNoPart (tPart (tVar 3))))) (by rfl) scLs.nd (pi_range1 (by rfl) mr (pa_cons (pe_callB call_len_seq (by rfl) ml PySem.boot_len (pa_cons (pv 1) pa_nil)) pa_nil)) (blkOk_by (own := [("_law_k", 3)]) (N := nLs) (sc := defScope sLs) (by decide +kernel)) (fun _ _ _ _ _ => pg_name (i := 3) scLs.nd rfl (Or.inl rfl)) (fun _ _ _ _ _ => pts_one (pt_cmpR op_in_seq (pe_ix ix_tup (pv 1) (pv 3) (fun _ _ => rfl)) (pe_slice sl_tupG (pv 1) po_none (po_some (pv 3))) rfl)) (fun _ _ _ _ _ => pv 3)) (pe_lst pa_nil) (nomark _))))))), ?_⟩
    have nay : ∀ {H'}, Same H H' → isSortD d = false → Q (.bl false) H' := fun {H'} x e => by
      have q2 := q H' x
      rw [e] at q2
      exact q2
    refine ⟨v, rfl, v, _, _, _, _, rfl, .ty _, ty_dp hd, kit_ty (kit_t d), _, rfl, ?_⟩
    refine ite2 (fun e => iteT (nay (Same.refl _) (sort_kind (by simpa using e)))) (fun e => ?_)
    obtain ⟨ds, rfl⟩ := tup_of (d := d) (by simpa using e)
    obtain ⟨a, xs, rfl, sq, hds⟩ := dp_tup hd
    have len_ := dpAll_len hds
    have hp' : pls ds = true := by simpa only [pl] using hp
    have hw' : wts ds ≤ 100000 := by
      rw [wt] at hw
      omega
    refine ⟨.ref a, rfl, a, xs, rfl, .inr sq, rfl, _, rfl, ite2 (fun e3 => iteT (nay (Same.refl _) (sort_len fun z => ?_))) (fun e3 => ?_)⟩
    · have e4 : ¬ (V.int ((xs.length : Nat) : Int) = V.int 2) := ndT e3
      rw [len_, z] at e4
      exact e4 rfl
    · have a3 : xs.length = 2 := by
        have e4 : V.int ((xs.length : Nat) : Int) = V.int 2 := ndF e3
        have := V.int.inj e4
        omega
      obtain ⟨x, y, dx, dy, rfl, rfl, h1, h2⟩ := two_of hds a3
      have w1 := wt_mem (show dx ∈ [dx, dy] from List.mem_cons_self)
      have w2 := wt_mem (show dy ∈ [dx, dy] from List.mem_cons_of_mem _ List.mem_cons_self)
      have p1 := pl_mem hp' (show dx ∈ [dx, dy] from List.mem_cons_self)
      have p2 := pl_mem hp' (show dy ∈ [dx, dy] from List.mem_cons_of_mem _ List.mem_cons_self)
      refine ⟨.ref a, rfl, a, _, 0, x, rfl, rfl, sq, rfl, x, 8, dx, rfl, h1, p1, by omega, fun H1 s1 => ⟨_, rfl, ite2 (fun e5 => nay s1 (sort_name (by simpa using e5))) (fun e5 => ?_)⟩⟩
      have e6 : isWordD 8 dx = true := by simpa using e5
      have sq1 := (Ky.of s1).sqT sq
      have h2' := (Ky.of s1).dp dy y h2
      refine ⟨.ref a, rfl, a, _, 1, y, rfl, rfl, sq1, rfl, ?_⟩
      refine ⟨y, rfl, y, _, _, _, _, rfl, .ty _, ty_dp h2', kit_ty (kit_t dy), _, rfl, ite2 (fun e7 => iteT (nay s1 (sort_tup (by simpa using e7)))) (fun e7 => ?_)⟩
      obtain ⟨cs, rfl⟩ := tup_of (d := dy) (by simpa using e7)
      obtain ⟨b, ys, rfl, sq2, hcs⟩ := dp_tup h2'
      have len2 := dpAll_len hcs
      have hw2 : wts cs ≤ 100000 := by
        rw [wt] at w2
        omega
      have p2' : pls cs = true := by simpa only [pl] using p2
      have sd := sort_yes (cs := cs) e6
      refine ⟨.ref b, rfl, b, ys, rfl, .inr sq2, (by show 5 ≤ sizeLine; decide), fun D nD => ?_⟩
      have sD := same_upd nD (o := .lst [.int 2, .int 3, .int 4, .int 5, .int 6])
      refine ⟨D, _, rfl, .inl (SqL.of upd_same), rfl, rfl, _, rfl, ite2 (fun e8 => nay (s1.trans sD) ?_) (fun e8 => ?_)⟩
      · have e9 : (!(decide (2 ≤ ys.length) && decide (ys.length ≤ 6))) = true := by
          rw [← two_six]
          exact e8
        rw [sd, ← len2]
        have e10 : (decide (2 ≤ ys.length) && decide (ys.length ≤ 6)) = false := notT e9
        rw [← Bool.and_assoc, e10, Bool.false_and]
      · have e9 : (decide (2 ≤ ys.length) && decide (ys.length ≤ 6)) = true := by
          have z : ¬ (!(decide (2 ≤ ys.length) && decide (ys.length ≤ 6))) = true := by
            rw [← two_six]
            exact e8
          exact notF z
        rw [Bool.and_eq_true, decide_eq_true_iff, decide_eq_true_iff] at e9
        have sA := s1.trans sD
        have sq3 := (Ky.of sD).sqT sq2
        have hcs3 := (Ky.of sD).dpAll cs ys hcs
        generalize upd H1 D (.lst [.int 2, .int 3, .int 4, .int 5, .int 6]) = H2 at sA sq3 hcs3 ⊢
        refine ⟨.ref b, rfl, b, rfl, ⟨_, sq3⟩, fun D2 nD2 => ?_⟩
        refine lc_tup (K := K) (a := b) (xs := ys) (Grow H2 D2 (fil cs (fun _ => true) (fun c => .bl (isWordD 4 c)))) (grow0 nD2 fil0) (fun i H' _ g => (Ky.of g.1).sqT sq3) (fun i x H' hx g => ?_) (fun H' g => ?_)
        · obtain ⟨dx2, e11, hdx⟩ := dpAll_get ((Ky.of g.1).dpAll cs ys hcs3) hx
          have hm := List.mem_of_getElem? e11
          have := wt_mem hm
          refine ⟨rfl, x, rfl, x, 4, dx2, rfl, hdx, pl_mem p2' hm, by omega, fun H3 s3 => put nD2 g s3 (Nat.lt_of_le_of_lt fil_len (by rw [← len2]; exact small1000 (by omega))) (fil_yes e11 rfl)⟩
        · have g2 := g.2
          rw [fil_all (by omega), List.filter_eq_self.mpr (fun _ _ => rfl), show cs.map (fun c => V.bl (isWordD 4 c)) = (cs.map (isWordD 4)).map V.bl by rw [List.map_map]; rfl] at g2
          refine ⟨D2, cs.map (isWordD 4), rfl, SqL.of g2, _, rfl, ite2 (fun e11 => nay (sA.trans g.1) ?_) (fun e11 => ?_)⟩
          · have e12 := notT e11
            rw [sd]
            unfold unlikeD
            have e13 : cs.all (isWordD 4) = false := by
              rw [← e12, List.all_map]
              rfl
            rw [e13, Bool.false_and, Bool.and_false, Bool.and_false]
          · have e12 : cs.all (isWordD 4) = true := by
              rw [← notF e11, List.all_map]
              rfl
            have sq4 := (Ky.of g.1).sqT sq3
            have hcs4 := (Ky.of g.1).dpAll cs ys hcs3
            have sB := sA.trans g.1
            have ey := dp_strs hcs4 e12
            have lz : (cs.map strOf).length = ys.length := by rw [List.length_map, len2]
            generalize hz : cs.map strOf = zs at ey lz
            subst ey
            rw [List.length_map] at e9
            refine ⟨.ref b, rfl, b, _, rfl, .inr sq4, ((zs.map V.str).length : Int), rfl, by rw [List.length_map]; omega, by rw [List.length_map]; omega, fun D3 nD3 => ?_⟩
            refine lc_range (lo := 0) (n := (((zs.map V.str).length : Nat) : Int).toNat) (Grow H' D3 (fil (List.range zs.length) (twiceAt zs) (fun k => V.int (k : Nat)))) (grow0 nD3 fil0) (fun i H5 hi g5 => ?_) (fun H5 g5 => ?_)
            · rw [Int.toNat_natCast, List.length_map] at hi
              rw [Int.zero_add]
              have at_ : atI (zs.map V.str) ((i : Nat) : Int) = some (.str (zs.getD i "")) := atI_nat (by rw [List.getElem?_map, List.getD_eq_getElem?_getD, List.getElem?_eq_getElem hi]; rfl)
              have sq5 := (Ky.of g5.1).sqT sq4
              refine ⟨rfl, .ref b, rfl, .int (i : Nat), rfl, b, _, _, _, rfl, rfl, sq5, at_, .ref b, rfl, _, rfl, _, rfl, b, _, rfl, sq5, fun H6 p s6 sq6 => ?_⟩
              rw [cut_to, ← List.map_take] at sq6
              refine ⟨p, _, rfl, .inr sq6, rfl, flat_strs _, _, rfl, ite2 (fun e14 => ?_) (fun e14 => ?_)⟩
              · have e15 : twiceAt zs i = true := (inV_str _ _).symm.trans e14
                exact ⟨_, rfl, put nD3 g5 s6 (Nat.lt_of_le_of_lt fil_len (by rw [List.length_range]; exact small1000 (by omega))) (fil_yes (range_get hi) e15)⟩
              · have e15 : twiceAt zs i = false := Bool.eq_false_iff.mpr fun z => e14 ((inV_str _ _).trans z)
                exact left g5 s6 (fil_no (range_get hi) e15)
            · have g6 := g5.2
              rw [fil_all (by rw [List.length_range, Int.toNat_natCast, List.length_map]; exact Nat.le_refl _), show ((List.range zs.length).filter (twiceAt zs)).map (fun k => V.int (k : Nat)) = (((List.range zs.length).filter (twiceAt zs)).map Int.ofNat).map V.int by rw [List.map_map]; rfl] at g6
              refine ⟨Nat.zero_le _, fun D6 nD6 => ?_⟩
              have s6 := same_upd nD6 (o := .lst [])
              refine ⟨_, _, .lst (SqL.of (s6 _ _ g6)) (ints_dp _), .lst (SqL.of upd_same) .nil, ints_shaped _, ints_shaped [], ?_⟩
              rw [eqv_nil, twice_nil]
              have q2 := q _ ((sB.trans g5.1).trans s6)
              rw [sd] at q2
              unfold unlikeD at q2
              rw [hz, e12, decide_eq_true (show 2 ≤ cs.length by omega), decide_eq_true (show cs.length ≤ 6 by omega), Bool.true_and, Bool.true_and, Bool.true_and] at q2
              exact q2
end
end Cv
set_option Elab.async false
set_option linter.all false
set_option maxRecDepth 100000
set_option maxHeartbeats 1000000
namespace Cv
open PySem PySem.Spec PyProof.Rows L2
/-! ### the law's own look: a plan -/
abbrev sLdu : Stmt := topS 65
abbrev nLdu : List Str := ["_law_thing", "_law_odd", "_law_names", "_law_again", "_law_k", "_law_sort"]
theorem scLdu : FnScope nLdu ["_law_thing"] (defScope sLdu) := ⟨rfl, rfl, rfl, by decide +kernel, rfl, by decide +kernel, by decide +kernel⟩
def spLdu (K : PySem.W.Frag) : Sp := fun vs H Q _ => ∃ (v : V) (d : PyData), vs = [v] ∧ Dp K H v d ∧ pl d = true ∧ wt d ≤ 100000 ∧ ∀ H' r, Same H H' → Dp K H' r (wrongD d) → Q r H'
theorem one_four {n : Nat} : inV (.int n) [.int 1, .int 2, .int 3, .int 4] = (decide (1 ≤ n) && decide (n ≤ 4)) := by
  rw [Bool.eq_iff_iff, Bool.and_eq_true, decide_eq_true_iff, decide_eq_true_iff]
  unfold inV
  rw [List.any_eq_true]
  constructor
  · rintro ⟨x, hx, e⟩
    simp only [List.mem_cons, List.mem_nil_iff, or_false] at hx
    rcases hx with rfl | rfl | rfl | rfl <;> (simp only [eqV, beq_iff_eq] at e; omega)
  · intro h
    have h2 : n = 1 ∨ n = 2 ∨ n = 3 ∨ n = 4 := by omega
    rcases h2 with rfl | rfl | rfl | rfl
    · exact ⟨.int 1, by simp, by decide⟩
    · exact ⟨.int 2, by simp, by decide⟩
    · exact ⟨.int 3, by simp, by decide⟩
    · exact ⟨.int 4, by simp, by decide⟩
theorem ints_of (l : List Nat) : l.map (fun k => V.int (k : Nat)) = (l.map Int.ofNat).map V.int := by
  rw [List.map_map]
  rfl
theorem neq_nil : ∀ cs : List Int, (!PyData.eqv (.list (cs.map PyData.int)) (.list [])) = !decide (cs = []) := fun cs => by rw [eqv_nil]
/-- the first of those that are so -/
theorem firstK_cons {n k : Nat} {p : Nat → Bool} {r : List Nat} (h : (List.range n).filter p = k :: r) : firstK n p = some k := by rw [firstK_filter, h]; rfl
theorem firstK_nil {n : Nat} {p : Nat → Bool} (h : (List.range n).filter p = []) : firstK n p = none := by rw [firstK_filter, h]; rfl
section
variable {P : Program} {w : World} {K : PySem.W.Frag} {mg : Str → Option Value} {base : Heap}
theorem ok_ldu {f fS : Addr} {fd fdS : FuncData} {k : Nat} (F : Fun K "_law_due" "_law_due" sLdu f fd) (S : At P w K mg base CX0 k "_law_is_sort" fS fdS ["_law_thing"] (spLs K)) (ml : mg "len" = none) (mi : mg "isinstance" = none) (mt : mg "tuple" = none) (mr : mg "range" = none) : FnOk P w K mg base CX0 (k + 1) f fd ["_law_thing"] (spLdu K) := by
  refine F.ok scLdu (fun vs H Q E h => ?_) (fun cdv A outer s H vs Q E hr h => ?_)
  · obtain ⟨v, d, rfl, _⟩ := h
    rfl
  · obtain ⟨v, d, rfl, hd, hp, hw, q⟩ := h
    refine ⟨_, pss_cons (ps_if (PW.pt (pw_or (pt_not (pt_val (pe_callB call_isi (by rfl) mi PyProof.Rows.boot_isinstance (pa_cons (pv 0) (pa_cons (pe_bltn (v := .ty "tuple") (by rfl) mt PyProof.Rows.Boot.«tuple» rfl) pa_nil)))))
        (pw_or1 (pt_cmpR op_notIn_seq (pe_callB call_len_seq (by rfl) ml PySem.boot_len (pa_cons (pv 0) pa_nil)) (pe_lst (pa_cons pe_int (pa_cons pe_int (pa_cons pe_int (pa_cons pe_int pa_nil))))) rfl)))) (pss_one (ps_ret (pe_tup (pa_cons pe_str pa_nil)))) pss_nil)
      (pss_cons (ps_setLc (i := 1) (own := [("_law_k", 4)]) (g := gName 4) (tt := tNot (tB (tCall (spLs K) [] (fun _ _ _ => False) (tCons (tOp (rIxT K) (tVar 0) (tVar 4)) tNil)))) rfl scLdu.nd rfl rfl (sw_true rfl rfl rfl (by decide +kernel)) (pi_range1 (by rfl) mr (pa_cons (pe_callB call_len_seq (by rfl) ml PySem.boot_len (pa_cons (pv 0) pa_nil)) pa_nil))
          (blkOk_by (own := [("_law_k", 4)]) (N := nLdu) (sc := defScope sLdu) (by decide +kernel)) (fun _ _ _ _ _ => pg_name (i := 4) scLdu.nd rfl (Or.inl rfl)) (fun _ _ _ _ _ => pts_one (pt_not (pt_val (pe_call (E := fun _ _ _ => False) S.ok hr (by rfl) S.g S.kp S.b .nil pass0 (pa_cons (pe_ix ix_tup (pv 0) (pv 4) (fun _ _ => rfl)) pa_nil))))) (fun _ _ _ _ _ => pv 4))
      (pss_cons (ps_if (pt_cmpR (op_neD hr.units) (pv 1) (pe_lst pa_nil) (nomark _)) (pss_one (ps_ret (pe_tup (pa_cons pe_str (pa_cons (pe_ix ix_list (pv 1) pe_int (fun _ _ => rfl)) pa_nil))))) pss_nil)
      (pss_cons (ps_set (i := 2) scLdu.nd rfl (.inr rfl) (pe_lc (own := [("_law_sort", 5)]) (g := gName 5) (tt := tYes) (te := tOp (rIxT K) (tVar 5) (tC (.int 0))) (by rfl) scLdu.nd (pi_tup (pv 0)) (blkOk_by (own := [("_law_sort", 5)]) (N := nLdu) (sc := defScope sLdu) (by decide +kernel)) (fun _ _ _ _ _ => pg_name (i := 5) scLdu.nd rfl (Or.inl rfl)) (fun _ _ _ _ _ => pts_nil) (fun _ _ _ _ _ => pe_ix ix_tup (pv 5) pe_int (fun _ _ => rfl))))
      (pss_cons (ps_setLc (i := 3) (own := [("_law_k", 4)]) (g := gName 4) (tt := tTest (tOp (rIn K false) (tOp (rIxL K) (tVar 2) (tVar 4)) (tSl (rSlL K) (tVar 2) tNoPart (tPart (tVar 4))))) rfl scLdu.nd rfl rfl (sw_true rfl rfl rfl (by decide +kernel)) (pi_range1 (by rfl) mr (pa_cons (pe_callB call_len_seq (by rfl) ml PySem.boot_len (pa_cons (pv 2) pa_nil)) pa_nil))
          (blkOk_by (own := [("_law_k", 4)]) (N := nLdu) (sc := defScope sLdu) (by decide +kernel)) (fun _ _ _ _ _ => pg_name (i := 4) scLdu.nd rfl (Or.inl rfl)) (fun _ _ _ _ _ => pts_one (pt_cmpR op_in_seq (pe_ix ix_list (pv 2) (pv 4) (fun _ _ => rfl)) (pe_slice sl_list (pv 2) po_none (po_some (pv 4))) rfl)) (fun _ _ _ _ _ => pv 4))
      (pss_cons (ps_if (pt_cmpR (op_neD hr.units) (pv 3) (pe_lst pa_nil) (nomark _)) (pss_one (ps_ret (pe_tup (pa_cons pe_str (pa_cons (pe_ix ix_list (pv 3) pe_int (fun _ _ => rfl)) pa_nil))))) pss_nil)
      (pss_one (ps_ret pe_non))))))), ?_⟩
    -- ("plan",)
    have nay : ∀ {H'}, Same H H' → wrongD d = .tuple [.str "plan"] → 1 ≤ sizeLine ∧ ∀ t, H' t = none → Q (.ref t) (upd H' t (.tup [.str "plan"])) := fun {H'} x e => by
      refine ⟨by decide, fun t nt => q _ _ (x.trans (same_upd nt)) ?_⟩
      rw [e]
      exact .tup (SqT.of upd_same) (.cons (.str _) .nil)
    refine ⟨v, rfl, v, _, _, _, _, rfl, .ty _, ty_dp hd, kit_ty (kit_t d), _, rfl, ite2 (fun e => iteT (nay (Same.refl _) ?_)) (fun e => ?_)⟩
    · have e2 : isT d = false := by simpa using e
      cases d with
      | tuple ds => cases e2
      | _ => rfl
    obtain ⟨ds, rfl⟩ := tup_of (d := d) (by simpa using e)
    obtain ⟨a, xs, rfl, sq, hds⟩ := dp_tup hd
    have len_ := dpAll_len hds
    have hp' : pls ds = true := by simpa only [pl] using hp
    have hw' : wts ds ≤ 100000 := by
      rw [wt] at hw
      omega
    have wd : wrongD (.tuple ds) = wrongDs ds := rfl
    refine ⟨.ref a, rfl, a, xs, rfl, .inr sq, (by show 4 ≤ sizeLine; decide), fun D nD => ?_⟩
    have sD := same_upd nD (o := .lst [.int 1, .int 2, .int 3, .int 4])
    refine ⟨D, _, rfl, .inl (SqL.of upd_same), rfl, rfl, _, rfl, ite2 (fun e8 => nay sD ?_) (fun e8 => ?_)⟩
    · have e9 : (!(decide (1 ≤ xs.length) && decide (xs.length ≤ 4))) = true := by
        rw [← one_four]
        exact e8
      have e10 := notT e9
      rw [wd]
      unfold wrongDs
      rw [if_neg fun h => ?_]
      rw [decide_eq_true (show 1 ≤ xs.length by omega), decide_eq_true (show xs.length ≤ 4 by omega)] at e10
      cases e10
    · have e9 : (decide (1 ≤ xs.length) && decide (xs.length ≤ 4)) = true := by
        have z : ¬ (!(decide (1 ≤ xs.length) && decide (xs.length ≤ 4))) = true := by
          rw [← one_four]
          exact e8
        exact notF z
      rw [Bool.and_eq_true, decide_eq_true_iff, decide_eq_true_iff] at e9
      have fit : 1 ≤ ds.length ∧ ds.length ≤ 4 := by omega
      have sq1 := (Ky.of sD).sqT sq
      have hds1 := (Ky.of sD).dpAll ds xs hds
      generalize upd H D (.lst [.int 1, .int 2, .int 3, .int 4]) = H1 at sD sq1 hds1 ⊢
      refine ⟨.ref a, rfl, a, xs, rfl, .inr sq1, ((xs.length : Nat) : Int), rfl, by omega, by omega, fun D1 nD1 => ?_⟩
      refine lc_range (lo := 0) (n := (((xs.length : Nat) : Int)).toNat) (Grow H1 D1 (fil (List.range ds.length) (notSort ds) (fun k => V.int (k : Nat)))) (grow0 nD1 fil0) (fun i H2 hi g => ?_) (fun H2 g => ?_)
      · rw [Int.toNat_natCast, len_] at hi
        rw [Int.zero_add]
        have hx : xs[i]? = some (xs[i]'(by omega)) := List.getElem?_eq_getElem (by omega)
        obtain ⟨dx, ex, hdx⟩ := dpAll_get ((Ky.of g.1).dpAll ds xs hds1) hx
        have gx : ds.getD i .none = dx := by
          rw [List.getD_eq_getElem?_getD, ex]
          rfl
        have hm := List.mem_of_getElem? ex
        have w1 := wt_mem hm
        refine ⟨rfl, .ref a, rfl, .int (i : Nat), rfl, a, xs, _, _, rfl, rfl, (Ky.of g.1).sqT sq1, atI_nat hx, _, dx, rfl, hdx, pl_mem hp' hm, by omega, fun H3 s3 => ⟨_, rfl, ite2 (fun e5 => ?_) (fun e5 => ?_)⟩⟩
        · have e6 : notSort ds i = true := by
            unfold notSort
            rw [gx]
            exact e5
          exact ⟨_, rfl, put nD1 g s3 (Nat.lt_of_le_of_lt fil_len (by rw [List.length_range]; exact small1000 (by omega))) (fil_yes (range_get hi) e6)⟩
        · have e6 : notSort ds i = false := by
            unfold notSort
            rw [gx]
            exact Bool.eq_false_iff.mpr e5
          exact left g s3 (fil_no (range_get hi) e6)
      · have g2 := g.2
        rw [fil_all (by rw [List.length_range, Int.toNat_natCast]; omega), ints_of] at g2
        have s1 := sD.trans g.1
        have sq2 := (Ky.of g.1).sqT sq1
        have hds2 := (Ky.of g.1).dpAll ds xs hds1
        refine ⟨.ref D1, rfl, Nat.zero_le _, fun D2 nD2 => ?_⟩
        have s2 := same_upd nD2 (o := .lst [])
        have g3 := s2 _ _ g2
        have sq3 := (Ky.of s2).sqT sq2
        have hds3 := (Ky.of s2).dpAll ds xs hds2
        have sA := s1.trans s2
        refine ⟨_, _, .lst (SqL.of g3) (ints_dp _), .lst (SqL.of upd_same) .nil, ints_shaped _, ints_shaped [], _, rfl, ?_⟩
        generalize upd H2 D2 (.lst []) = H3 at g3 sq3 hds3 sA ⊢
        rw [neq_nil]
        cases hl : (List.range ds.length).filter (notSort ds) with
        | cons k0 r =>
          rw [hl] at g3
          refine ite2 (fun _ => ?_) (fun z => absurd (ndF z) (by simp))
          refine ⟨.ref D1, rfl, D1, _, 0, .int (k0 : Nat), rfl, rfl, SqL.of g3, atI_nat (j := 0) rfl, (by show 2 ≤ sizeLine; decide), fun t nt => q _ _ (sA.trans (same_upd nt)) ?_⟩
          have e7 : wrongD (.tuple ds) = .tuple [.str "sort", .int k0] := by
            rw [wd]
            unfold wrongDs
            rw [if_pos fit, firstK_cons hl]
          rw [e7]
          exact .tup (SqT.of upd_same) (.cons (.str _) (.cons (.int _) .nil))
        | nil =>
          refine ite2 (fun z => absurd rfl (ndT z)) (fun _ => ?_)
          have none1 := firstK_nil hl
          have all : ∀ j, j < ds.length → isSortD (ds.getD j .none) = true := fun j hj => by
            have z := List.filter_eq_nil_iff.mp hl j (List.mem_range.mpr hj)
            unfold notSort at z
            exact notF z
          have wd2 : wrongD (.tuple ds) = (match firstK ds.length (twiceAt (ds.map nameOf)) with
              | some k => .tuple [.str "twice", .int k]
              | none => .none) := by
            rw [wd]
            unfold wrongDs
            rw [if_pos fit, none1] <;> rfl
          refine ⟨.ref a, rfl, a, rfl, ⟨xs, sq3⟩, fun D4 nD4 => ?_⟩
          refine lc_tup (K := K) (a := a) (xs := xs) (Grow H3 D4 (fil ds (fun _ => true) (fun d => .str (nameOf d)))) (grow0 nD4 fil0) (fun i H4 _ g4 => (Ky.of g4.1).sqT sq3) (fun i x H4 hx g4 => ?_) (fun H4 g4 => ?_)
          · obtain ⟨dx, ex, hdx⟩ := dpAll_get ((Ky.of g4.1).dpAll ds xs hds3) hx
            have hj : i < ds.length := (List.getElem?_eq_some_iff.mp ex).1
            have sx : isSortD dx = true := by
              have z := all i hj
              rw [List.getD_eq_getElem?_getD, ex] at z
              exact z
            obtain ⟨b, y, rfl, sq5⟩ := name_of hdx sx
            exact ⟨rfl, _, rfl, b, _, 0, _, rfl, rfl, sq5, rfl, put nD4 g4 (Same.refl _) (Nat.lt_of_le_of_lt fil_len (small1000 (by omega))) (fil_yes ex rfl)⟩
          · have g5 := g4.2
            rw [fil_all (by omega), List.filter_eq_self.mpr (fun _ _ => rfl), show ds.map (fun d => V.str (nameOf d)) = (ds.map nameOf).map V.str by rw [List.map_map]; rfl] at g5
            have sB := sA.trans g4.1
            have ln : (ds.map nameOf).length = ds.length := List.length_map ..
            generalize ds.map nameOf = zs at g5 wd2 ln
            refine ⟨.ref D4, rfl, D4, _, rfl, .inl (SqL.of g5), (((zs.map V.str).length : Nat) : Int), rfl, by rw [List.length_map]; omega, by rw [List.length_map]; omega, fun D6 nD6 => ?_⟩
            refine lc_range (lo := 0) (n := (((zs.map V.str).length : Nat) : Int).toNat) (Grow H4 D6 (fil (List.range ds.length) (twiceAt zs) (fun k => V.int (k : Nat)))) (grow0 nD6 fil0) (fun i H5 hi g6 => ?_) (fun H5 g6 => ?_)
            · rw [Int.toNat_natCast, List.length_map] at hi
              rw [Int.zero_add]
              have at_ : atI (zs.map V.str) ((i : Nat) : Int) = some (.str (zs.getD i "")) := atI_nat (by rw [List.getElem?_map, List.getD_eq_getElem?_getD, List.getElem?_eq_getElem hi]; rfl)
              have hz5 := g6.1 _ _ g5
              refine ⟨rfl, .ref D4, rfl, .int (i : Nat), rfl, D4, _, _, _, rfl, rfl, SqL.of hz5, at_, .ref D4, rfl, _, rfl, _, rfl, D4, _, rfl, SqL.of hz5, fun p np => ?_⟩
              have s6 := same_upd np (o := .lst (cutV (zs.map V.str) none (some ((i : Nat) : Int))))
              have atp : (upd H5 p (.lst (cutV (zs.map V.str) none (some ((i : Nat) : Int))))) p = some (.lst ((zs.take i).map V.str)) := by rw [upd_same, cut_to, List.map_take]
              refine ⟨p, _, rfl, .inl (SqL.of atp), rfl, flat_strs _, _, rfl, ite2 (fun e14 => ?_) (fun e14 => ?_)⟩
              · have e15 : twiceAt zs i = true := (inV_str _ _).symm.trans e14
                exact ⟨_, rfl, put nD6 g6 s6 (Nat.lt_of_le_of_lt fil_len (by rw [List.length_range]; exact small1000 (by omega))) (fil_yes (range_get (by omega)) e15)⟩
              · have e15 : twiceAt zs i = false := Bool.eq_false_iff.mpr fun z => e14 ((inV_str _ _).trans z)
                exact left g6 s6 (fil_no (range_get (by omega)) e15)
            · have g7 := g6.2
              rw [fil_all (by rw [List.length_range, Int.toNat_natCast, List.length_map]; omega), ints_of] at g7
              refine ⟨.ref D6, rfl, Nat.zero_le _, fun D8 nD8 => ?_⟩
              have s8 := same_upd nD8 (o := .lst [])
              have g9 := s8 _ _ g7
              have sC := (sB.trans g6.1).trans s8
              refine ⟨_, _, .lst (SqL.of g9) (ints_dp _), .lst (SqL.of upd_same) .nil, ints_shaped _, ints_shaped [], _, rfl, ?_⟩
              rw [neq_nil]
              cases hl2 : (List.range ds.length).filter (twiceAt zs) with
              | cons k0 r =>
                rw [hl2] at g9
                refine ite2 (fun _ => ?_) (fun z => absurd (ndF z) (by simp))
                refine ⟨.ref D6, rfl, D6, _, 0, .int (k0 : Nat), rfl, rfl, SqL.of g9, atI_nat (j := 0) rfl, (by show 2 ≤ sizeLine; decide), fun t nt => q _ _ (sC.trans (same_upd nt)) ?_⟩
                rw [wd2, firstK_cons hl2]
                exact .tup (SqT.of upd_same) (.cons (.str _) (.cons (.int _) .nil))
              | nil =>
                refine ite2 (fun z => absurd rfl (ndT z)) (fun _ => ?_)
                refine q _ _ sC ?_
                rw [wd2, firstK_nil hl2]
                exact .non
end
end Cv
set_option Elab.async false
set_option linter.all false
set_option maxRecDepth 100000
set_option maxHeartbeats 1000000
namespace Cv
open PySem PySem.Spec PyProof.Rows L2
/-! ### the heap without the purse -/
def hid (p c : Addr) (H : Hp) : Hp := fun a => if a = p ∨ a = c then none else H a
theorem hid_at {p c a : Addr} {H : Hp} (h1 : a ≠ p) (h2 : a ≠ c) : hid p c H a = H a := if_neg fun h => h.elim h1 h2
theorem hid_le {p c : Addr} {H : Hp} : Same (hid p c H) H := fun a o e => by
  unfold hid at e
  split at e
  · cases e
  · exact e
theorem hid_off {p c a : Addr} {H : Hp} {o : HO} (e : hid p c H a = some o) : a ≠ p ∧ a ≠ c := by
  unfold hid at e
  split at e
  · cases e
  · rename_i h
    exact ⟨fun z => h (.inl z), fun z => h (.inr z)⟩
theorem hid_kp {p c : Addr} {H H' : Hp} (k : Kp p c H H') : Same (hid p c H) (hid p c H') := fun a o e => by
  obtain ⟨h1, h2⟩ := hid_off e
  rw [hid_at h1 h2] at e ⊢
  exact k a o h1 h2 e
theorem hid_same {p c : Addr} {H H' : Hp} (k : Same H H') : Same (hid p c H) (hid p c H') := hid_kp (Kp.of k)
theorem hid_ky {p c : Addr} {H H' : Hp} (k : Ky H H') : Ky (hid p c H) (hid p c H') := fun a o n e => by
  obtain ⟨h1, h2⟩ := hid_off e
  rw [hid_at h1 h2] at e ⊢
  exact k a o n e
theorem hid_sqT {K : PySem.W.Frag} {p c a : Addr} {T : Nat} {H : Hp} {xs : List V} (hP : Pur H p c T) (h : SqT K H a xs) : SqT K (hid p c H) a xs := by
  obtain ⟨cs, k, hp, hc, _⟩ := hP
  rcases h with (h | ⟨o, h⟩) | h
  · exact .inl (.inl (by rw [hid_at (ne_of h hp fun z => nomatch z) (ne_of h hc fun z => nomatch z)]; exact h))
  · exact .inl (.inr ⟨o, by rw [hid_at (ne_of h hp fun z => nomatch z) (ne_of h hc fun z => nomatch z)]; exact h⟩)
  · exact .inr h
/-! ### what an expression yields, nothing changed -/
def YE (te : TE) (σ : L2.St) (H : Hp) (R : V → Hp → Prop) : Prop := ∀ Q : VK, (∀ v H', Same H H' → R v H' → Q v H') → te σ H Q
def YA (ta : TA) (σ : L2.St) (H : Hp) (R : List V → Hp → Prop) : Prop := ∀ Q : List V → Hp → Prop, (∀ vs H', Same H H' → R vs H' → Q vs H') → ta σ H Q
theorem ye_var {i : Nat} {σ : L2.St} {H : Hp} {v : V} {R : V → Hp → Prop} (h : σ[i]? = some (some v)) (r : R v H) : YE (tVar i) σ H R := fun Q q => ⟨v, h, q v H (Same.refl _) r⟩
theorem ye_c {v : V} {σ : L2.St} {H : Hp} {R : V → Hp → Prop} (r : R v H) : YE (tC v) σ H R := fun Q q => q v H (Same.refl _) r
theorem YE.mono {te : TE} {σ : L2.St} {H : Hp} {R R' : V → Hp → Prop} (h : YE te σ H R) (m : ∀ v H', Same H H' → R v H' → R' v H') : YE te σ H R' := fun Q q => h Q fun v H' s r => q v H' s (m v H' s r)
section
variable {K : PySem.W.Frag} {p c : Addr} {σ : L2.St} {H : Hp}
/-- a small thing, off the purse -/
def GoodA (K : PySem.W.Frag) (p c : Addr) (n : Nat) (v : V) (H : Hp) : Prop := Good K n v (hid p c H)
theorem GoodA.same {n : Nat} {v : V} {H' : Hp} (h : GoodA K p c n v H) (s : Same H H') : GoodA K p c n v H' := Good.ky h (.of (hid_same s))
theorem GoodA.kp {n : Nat} {v : V} {H' : Hp} (h : GoodA K p c n v H) (s : Kp p c H H') : GoodA K p c n v H' := Good.ky h (.of (hid_kp s))
theorem GoodA.ky {n : Nat} {v : V} {H' : Hp} (h : GoodA K p c n v H) (s : Ky H H') : GoodA K p c n v H' := Good.ky h (hid_ky s)
theorem good_str {n : Nat} {z : Str} (h : pl (.str z) = true) (l : 10 * z.length + 2 ≤ n) : GoodA K p c n (.str z) H := ⟨.str z, .str z, h, by rw [wt]; exact l⟩
theorem good_int {n : Nat} {i : Int} (h0 : 0 ≤ i) (h1 : i ≤ 1000000) (l : 8 ≤ n) : GoodA K p c n (.int i) H := ⟨.int i, .int i, by rw [pl, decide_eq_true h0, decide_eq_true h1]; rfl, by rw [wt]; exact l⟩
theorem good_non {n : Nat} (l : 4 ≤ n) : GoodA K p c n .non H := ⟨.none, .non, rfl, by rw [wt]; exact l⟩
theorem good_bl {n : Nat} {b : Bool} (l : 5 ≤ n) : GoodA K p c n (.bl b) H := ⟨.bool b, .bl b, rfl, by rw [wt]; exact l⟩
/-- m small things -/
def GoodAs (K : PySem.W.Frag) (p c : Addr) (n m : Nat) (vs : List V) (H : Hp) : Prop := vs.length = m ∧ ∀ v ∈ vs, GoodA K p c n v H
theorem ya_nil {n : Nat} : YA tNil σ H (GoodAs K p c n 0) := fun Q q => q [] H (Same.refl _) ⟨rfl, fun v h => absurd h List.not_mem_nil⟩
theorem ya_cons {te : TE} {ta : TA} {n m : Nat} (h1 : YE te σ H (GoodA K p c n)) (h2 : ∀ H', Same H H' → YA ta σ H' (GoodAs K p c n m)) : YA (tCons te ta) σ H (GoodAs K p c n (m + 1)) := fun Q q => by
  refine h1 _ fun v H1 s1 g1 => h2 H1 s1 _ fun vs H2 s2 g2 => q (v :: vs) H2 (s1.trans s2) ⟨by rw [List.length_cons, g2.1], fun x hx => ?_⟩
  rcases List.mem_cons.mp hx with rfl | hx
  · exact g1.same s2
  · exact g2.2 x hx
/-- a list of m small things, off the purse -/
def LstG (K : PySem.W.Frag) (p c : Addr) (n m : Nat) (v : V) (H : Hp) : Prop := ∃ l xs, v = .ref l ∧ l ≠ p ∧ l ≠ c ∧ H l = some (.lst xs) ∧ xs.length = m ∧ ∀ x ∈ xs, GoodA K p c n x H
/-- a tuple of at most m small things -/
def TupG (K : PySem.W.Frag) (p c : Addr) (n m : Nat) (v : V) (H : Hp) : Prop := ∃ a xs, v = .ref a ∧ SqT K H a xs ∧ xs.length ≤ m ∧ ∀ x ∈ xs, GoodA K p c n x H
theorem LstG.same {n m : Nat} {v : V} {H' : Hp} (h : LstG K p c n m v H) (s : Same H H') : LstG K p c n m v H' := by
  obtain ⟨l, xs, e, h1, h2, h3, h4, h5⟩ := h
  exact ⟨l, xs, e, h1, h2, s _ _ h3, h4, fun x hx => (h5 x hx).same s⟩
theorem TupG.same {n m : Nat} {v : V} {H' : Hp} (h : TupG K p c n m v H) (s : Same H H') : TupG K p c n m v H' := by
  obtain ⟨a, xs, e, h3, h4, h5⟩ := h
  exact ⟨a, xs, e, (Ky.of s).sqT h3, h4, fun x hx => (h5 x hx).same s⟩
theorem TupG.good {n m k T : Nat} {v : V} (h : TupG K p c n m v H) (hP : Pur H p c T) (l : 3 + m * (n + 2) ≤ k) : GoodA K p c k v H := by
  obtain ⟨a, xs, rfl, h3, h4, h5⟩ := h
  exact good_tup (hid_sqT hP h3) h5 (Nat.le_trans (Nat.add_le_add_left (Nat.mul_le_mul_right _ h4) 3) l)
theorem LstG.good {n m k : Nat} {v : V} (h : LstG K p c n m v H) (l : 3 + m * (n + 2) ≤ k) : GoodA K p c k v H := by
  obtain ⟨a, xs, rfl, h1, h2, h3, h4, h5⟩ := h
  exact good_lst (SqL.of (by rw [hid_at h1 h2]; exact h3)) h5 (by rw [h4]; exact l)
theorem TupG.le {n n' m m' : Nat} {v : V} (h : TupG K p c n m v H) (l1 : n ≤ n') (l2 : m ≤ m') : TupG K p c n' m' v H := by
  obtain ⟨a, xs, rfl, h3, h4, h5⟩ := h
  exact ⟨a, xs, rfl, h3, by omega, fun x hx => Good.le (h5 x hx) l1⟩
theorem ye_lst {ta : TA} {n m T : Nat} (hP : Pur H p c T) (h : YA ta σ H (GoodAs K p c n m)) (l : m ≤ 1000) : YE (tLst ta) σ H (LstG K p c n m) := fun Q q => by
  refine h _ fun vs H1 s1 g1 => ⟨by rw [g1.1]; exact Nat.le_of_lt (small1000 l), fun t nt => ?_⟩
  obtain ⟨t1, t2⟩ := (hP.same s1).nep nt
  have s2 := same_upd nt (o := .lst vs)
  exact q _ _ (s1.trans s2) ⟨t, vs, rfl, t1, t2, upd_same, g1.1, fun x hx => (g1.2 x hx).same s2⟩
theorem ye_tup {ta : TA} {n m : Nat} (h : YA ta σ H (GoodAs K p c n m)) (l : m ≤ 1000) : YE (tTup ta) σ H (TupG K p c n m) := fun Q q => by
  refine h _ fun vs H1 s1 g1 => ⟨by rw [g1.1]; exact Nat.le_of_lt (small1000 l), fun t nt => ?_⟩
  have s2 := same_upd nt (o := .tup vs)
  exact q _ _ (s1.trans s2) ⟨t, vs, rfl, SqT.of upd_same, Nat.le_of_eq g1.1, fun x hx => (g1.2 x hx).same s2⟩
/-- an end of a slice -/
def YO (to : TO) (σ : L2.St) (H : Hp) : Prop := ∀ Q : Option Int → Hp → Prop, (∀ o H', Same H H' → Q o H') → to σ H Q
theorem yo_none : YO tNoPart σ H := fun Q q => q none H (Same.refl _)
theorem yo_some {te : TE} (h : YE te σ H fun v _ => ∃ i, v = .int i) : YO (tPart te) σ H := fun Q q => h _ fun v H' s ⟨i, e⟩ => ⟨i, e, q (some i) H' s⟩
theorem cut_mem {xs : List V} {lo hi : Option Int} {x : V} (h : x ∈ cutV xs lo hi) : x ∈ xs := by
  unfold cutV at h
  exact List.mem_of_mem_drop (List.mem_of_mem_take h)
theorem cut_len {xs : List V} {lo hi : Option Int} : (cutV xs lo hi).length ≤ xs.length := cutV_length xs lo hi
theorem ye_cut {te : TE} {tl th : TO} {n m : Nat} (h : YE te σ H (TupG K p c n m)) (h1 : ∀ H', Same H H' → YO tl σ H') (h2 : ∀ H', Same H H' → YO th σ H') : YE (tSl (rSlG K) te tl th) σ H (TupG K p c n m) := fun Q q => by
  refine h _ fun v H1 s1 g1 => h1 H1 s1 _ fun lo H2 s2 => h2 H2 (s1.trans s2) _ fun hi H3 s3 => ?_
  obtain ⟨a, xs, rfl, e3, e4, e5⟩ := g1.same (s2.trans s3)
  exact ⟨a, xs, rfl, e3, fun H4 t s4 st => q _ _ (((s1.trans s2).trans s3).trans s4) ⟨t, _, rfl, st, Nat.le_trans cut_len e4, fun x hx => (e5 x (cut_mem hx)).same s4⟩⟩
theorem ye_cat {ta tb : TE} {n m1 m2 : Nat} (h1 : YE ta σ H (TupG K p c n m1)) (h2 : ∀ H', Same H H' → YE tb σ H' (TupG K p c n m2)) (l : m1 + m2 ≤ 1000) : YE (tOp (rCatG K) ta tb) σ H (TupG K p c n (m1 + m2)) := fun Q q => by
  refine h1 _ fun v H1 s1 g1 => h2 H1 s1 _ fun u H2 s2 g2 => ?_
  obtain ⟨a, xs, rfl, e3, e4, e5⟩ := g1.same s2
  obtain ⟨b, ys, rfl, f3, f4, f5⟩ := g2
  refine ⟨a, b, xs, ys, rfl, rfl, e3, f3, Nat.le_of_lt (small1000 (by omega)), fun H4 t s4 st => q _ _ ((s1.trans s2).trans s4) ⟨t, _, rfl, st, by rw [List.length_append]; omega, fun x hx => ?_⟩⟩
  rcases List.mem_append.mp hx with hx | hx
  · exact (e5 x hx).same s4
  · exact (f5 x hx).same s4
theorem ye_catL {ta tb : TE} {n m1 m2 T : Nat} (hP : Pur H p c T) (h1 : YE ta σ H (LstG K p c n m1)) (h2 : ∀ H', Same H H' → YE tb σ H' (LstG K p c n m2)) (l : m1 + m2 ≤ 1000) : YE (tOp rCat ta tb) σ H (LstG K p c n (m1 + m2)) := fun Q q => by
  refine h1 _ fun v H1 s1 g1 => h2 H1 s1 _ fun u H2 s2 g2 => ?_
  obtain ⟨a, xs, rfl, e1, e2, e3, e4, e5⟩ := g1.same s2
  obtain ⟨b, ys, rfl, f1, f2, f3, f4, f5⟩ := g2
  refine ⟨a, b, xs, ys, rfl, rfl, e3, f3, Nat.le_of_lt (small1000 (by omega)), fun t nt => ?_⟩
  obtain ⟨t1, t2⟩ := (hP.same (s1.trans s2)).nep nt
  have s4 := same_upd nt (o := .lst (xs ++ ys))
  refine q _ _ ((s1.trans s2).trans s4) ⟨t, _, rfl, t1, t2, upd_same, by rw [List.length_append]; omega, fun x hx => ?_⟩
  rcases List.mem_append.mp hx with hx | hx
  · exact (e5 x hx).same s4
  · exact (f5 x hx).same s4
theorem mem_flat {α : Type} {xs : List α} {k : Nat} {x : α} (h : x ∈ (List.replicate k xs).flatten) : x ∈ xs := by
  obtain ⟨l, hl, hx⟩ := List.mem_flatten.mp h
  rw [(List.mem_replicate.mp hl).2] at hx
  exact hx
theorem len_flat {α : Type} {xs : List α} : ∀ k : Nat, ((List.replicate k xs).flatten).length = k * xs.length
  | 0 => by simp
  | k + 1 => by rw [List.replicate_succ, List.flatten_cons, List.length_append, len_flat k, Nat.succ_mul, Nat.add_comm]
theorem ye_rep {ta : TE} {n m k T : Nat} (hP : Pur H p c T) (h1 : YE ta σ H (LstG K p c n m)) (l : k * m ≤ 1000) (lk : k ≤ 1000) : YE (tOp rRep ta (tC (.int (k : Nat)))) σ H (LstG K p c n (k * m)) := fun Q q => by
  refine h1 _ fun v H1 s1 g1 => ?_
  obtain ⟨a, xs, rfl, e1, e2, e3, e4, e5⟩ := g1
  refine ⟨a, (k : Nat), xs, rfl, rfl, e3, by omega, by omega, by rw [Int.toNat_natCast, e4, Nat.mul_comm]; exact Nat.le_of_lt (small1000 l), fun t nt => ?_⟩
  obtain ⟨t1, t2⟩ := (hP.same s1).nep nt
  have s4 := same_upd nt (o := .lst (List.replicate ((k : Nat) : Int).toNat xs).flatten)
  exact q _ _ (s1.trans s4) ⟨t, _, rfl, t1, t2, upd_same, by rw [Int.toNat_natCast, len_flat, e4], fun x hx => (e5 x (mem_flat hx)).same s4⟩
/-- a tuple, not empty -/
theorem ye_repT {ta : TE} {n m k : Nat} (h1 : YE ta σ H fun v H' => TupG K p c n m v H' ∧ ∀ a, v = .ref a → ¬ SqT K H' a []) (k2 : 2 ≤ k) (lk : k ≤ 1000) (lm : m ≤ 1000) : YE (tOp (rRepT K) ta (tC (.int (k : Nat)))) σ H (TupG K p c n (k * m)) := fun Q q => by
  refine h1 _ fun v H1 s1 g1 => ?_
  obtain ⟨⟨a, xs, rfl, e3, e4, e5⟩, ne⟩ := g1
  refine ⟨a, (k : Nat), xs, rfl, rfl, e3, fun z => ne a rfl (by rw [← z]; exact e3), by omega, by omega, by omega, fun t nt => ?_⟩
  have s4 := same_upd nt (o := .tup (List.replicate ((k : Nat) : Int).toNat xs).flatten)
  exact q _ _ (s1.trans s4) ⟨t, _, rfl, SqT.of upd_same, by rw [Int.toNat_natCast, len_flat]; exact Nat.mul_le_mul_left _ e4, fun x hx => (e5 x (mem_flat hx)).same s4⟩
end
end Cv
set_option Elab.async false
set_option linter.all false
set_option maxRecDepth 100000
set_option maxHeartbeats 2000000
namespace Cv
open PySem PySem.Spec PyProof.Rows L2
section
variable {K : PySem.W.Frag} {p c : Addr} {σ : L2.St} {H : Hp}
theorem ye_ixT {i : Nat} {t : Addr} {xs : List V} {j : Int} {v : V} {R : V → Hp → Prop} (h : σ[i]? = some (some (.ref t))) (sq : SqT K H t xs) (e : atI xs j = some v) (r : R v H) : YE (tOp (rIxT K) (tVar i) (tC (.int j))) σ H R :=
  fun Q q => ⟨.ref t, h, t, xs, j, v, rfl, rfl, sq, e, q v H (Same.refl _) r⟩
theorem ye_list {te : TE} {n m k T : Nat} (hP : Pur H p c T) (h : YE te σ H (TupG K p c n m)) (l : 3 + m * (n + 2) ≤ k) :
    YE (tCB (fun xs H Q => ∃ p ys, xs = [V.ref p] ∧ (SqL K H p ys ∨ SqT K H p ys) ∧ ∀ l, H l = none → Q (.ref l) (upd H l (.lst ys))) (tCons te tNil)) σ H (GoodA K p c k) := fun Q q => by
  refine h _ fun v H1 s1 g1 => ?_
  obtain ⟨a, xs, rfl, e3, e4, e5⟩ := g1
  refine ⟨a, xs, rfl, .inr e3, fun t nt => ?_⟩
  obtain ⟨t1, t2⟩ := (hP.same s1).nep nt
  have s4 := same_upd nt (o := .lst xs)
  have g : LstG K p c n xs.length (.ref t) (upd H1 t (.lst xs)) := ⟨t, xs, rfl, t1, t2, upd_same, rfl, fun x hx => (e5 x hx).same s4⟩
  exact q _ _ (s1.trans s4) (g.good (Nat.le_trans (Nat.add_le_add_left (Nat.mul_le_mul_right _ e4) 3) l))
theorem strs_good {n : Nat} {ws : List Str} {t : Addr} {m : Nat} (sq : SqT K H t (ws.map V.str)) (l : ws.length ≤ m) (h : ∀ z ∈ ws, 10 * z.length + 2 ≤ n ∧ Lets z) : TupG K p c n m (.ref t) H :=
  ⟨t, _, rfl, sq, by rw [List.length_map]; exact l, fun x hx => by
    obtain ⟨z, hz, rfl⟩ := List.mem_map.mp hx
    exact good_str (lets_pl (h z hz).2) (h z hz).1⟩
end
/-! ### codes bent -/
abbrev sBc : Stmt := topS 66
abbrev nBc : List Str := ["_law_purse_here", "_law_codes_here", "_law_at", "_law_odd", "_law_some"]
theorem scBc : FnScope nBc ["_law_purse_here", "_law_codes_here"] (defScope sBc) := ⟨rfl, rfl, rfl, by decide +kernel, rfl, by decide +kernel, by decide +kernel⟩
def spBc (K : PySem.W.Frag) : Sp := fun vs H Q _ => ∃ (p c : Addr) (T : Nat) (t : Addr) (ws : List Str), vs = [.ref p, .ref t] ∧ Pur H p c T ∧ T ≤ 999990000 ∧ SqT K (hid p c H) t (ws.map V.str) ∧ 2 ≤ ws.length ∧ ws.length ≤ 6 ∧ (∀ z ∈ ws, z.length ≤ 4 ∧ Lets z) ∧
  ∀ H' r, Kp p c H H' → Pur H' p c (T + 3) → GoodA K p c 1000 r H' → Q r H'
section
variable {P : Program} {w : World} {K : PySem.W.Frag} {mg : Str → Option Value} {base : Heap}
theorem ok_bc {f fD fK : Addr} {fd fdD fdK : FuncData} {k : Nat} (F : Fun K "_law_bent_codes" "_law_bent_codes" sBc f fd) (D : At P w K mg base CX0 k "_law_draw" fD fdD ["_law_purse_here", "_law_out_of"] spDraw) (Pk : At P w K mg base CX0 k "_law_pick" fK fdK ["_law_purse_here", "_law_some"] (spPick K))
    (ml : mg "len" = none) (mls : mg "list" = none) : FnOk P w K mg base CX0 (k + 1) f fd ["_law_purse_here", "_law_codes_here"] (spBc K) := by
  refine F.ok scBc (fun vs H Q E h => ?_) (fun cdv A outer s H vs Q E hr h => ?_)
  · obtain ⟨p, c, T, t, ws, rfl, _⟩ := h
    rfl
  · obtain ⟨p, c, T, t, ws, rfl, hP, hT, sq0, w2, w6, hws, q⟩ := h
    refine ⟨_, pss_cons (ps_set (i := 2) scBc.nd rfl (.inl rfl) (pe_call D.ok hr (by rfl) D.g D.kp D.b .nil pass0 (pa_cons (pv 0) (pa_cons (pe_callB call_len_seq (by rfl) ml PySem.boot_len (pa_cons (pv 1) pa_nil)) pa_nil))))
      (pss_cons (ps_set (i := 3) scBc.nd rfl (.inl rfl) (pe_call Pk.ok hr (by rfl) Pk.g Pk.kp Pk.b .nil pass0 (pa_cons (pv 0) (pa_cons (pe_lst (pa_cons pe_str (pa_cons pe_str (pa_cons pe_str (pa_cons pe_str (pa_cons pe_str (pa_cons pe_int (pa_cons pe_non (pa_cons pe_bl (pa_cons (pe_tup (pa_cons pe_str pa_nil)) (pa_cons pe_str (pa_cons (pe_ix ix_tup (pv 1) pe_int (fun _ _ => rfl)) (pa_cons pe_str pa_nil))))))))))))) pa_nil))))
      (pss_cons (ps_set (i := 4) scBc.nd rfl (.inl rfl) (pe_op op_cat (pe_op op_rep (pe_lst (pa_cons (pe_op op_catG (pe_op op_catG (pe_slice sl_tupG (pv 1) po_none (po_some (pv 2))) (pe_tup (pa_cons (pv 3) pa_nil))) (pe_slice sl_tupG (pv 1) (po_some (pe_op op_add (pv 2) pe_int)) po_none)) pa_nil)) pe_int)
        (pe_lst (pa_cons (pe_slice sl_tupG (pv 1) po_none (po_some pe_int)) (pa_cons (pe_tup pa_nil) (pa_cons (pe_callTy call_list_of (by rfl) mls (by decide +kernel) (pa_cons (pv 1) pa_nil)) (pa_cons pe_non (pa_cons pe_str (pa_cons (pe_ix ix_tup (pv 1) pe_int (fun _ _ => rfl)) pa_nil)))))))))
      (pss_cons (ps_set (i := 4) scBc.nd rfl (.inl rfl) (pe_op op_cat (pv 4) (pe_lst (pa_cons (pe_op op_catG (pv 1) (pe_tup (pa_cons pe_str (pa_cons pe_str (pa_cons pe_str (pa_cons pe_str (pa_cons pe_str pa_nil))))))) (pa_cons (pe_op op_catG (pv 1) (pe_slice sl_tupG (pv 1) (po_some (pv 2)) (po_some (pe_op op_add (pv 2) pe_int)))) (pa_cons (pe_tup (pa_cons (pv 1) pa_nil)) pa_nil))))))
      (pss_one (ps_ret (pe_call Pk.ok hr (by rfl) Pk.g Pk.kp Pk.b .nil pass0 (pa_cons (pv 0) (pa_cons (pv 4) pa_nil)))))))), ?_⟩
    have w0 : 0 < ws.length := by omega
    have sqH := (Ky.of (hid_le (p := p) (c := c) (H := H))).sqT sq0
    have hws2 : ∀ z ∈ ws, 10 * z.length + 2 ≤ 60 ∧ Lets z := fun z hz => ⟨by have := (hws z hz).1; omega, (hws z hz).2⟩
    have at0 : atI (ws.map V.str) 0 = some (.str (ws.getD 0 "")) := atI_nat (j := 0) (by rw [List.getElem?_map, List.getD_eq_getElem?_getD, List.getElem?_eq_getElem w0]; rfl)
    have hm0 : ws.getD 0 "" ∈ ws := by
      rw [List.getD_eq_getElem?_getD, List.getElem?_eq_getElem w0]
      exact List.getElem_mem w0
    have goodc : ∀ {H' : Hp}, GoodA K p c 60 (.str (ws.getD 0 "")) H' := good_str (lets_pl (hws2 _ hm0).2) (hws2 _ hm0).1
    have goodc' : ∀ {H' : Hp}, GoodA K p c 900 (.str (ws.getD 0 "")) H' := good_str (lets_pl (hws2 _ hm0).2) (Nat.le_trans (hws2 _ hm0).1 (by decide))
    refine ⟨.ref p, rfl, .ref t, rfl, t, _, rfl, .inr sqH, p, c, T, _, rfl, hP, by omega, by rw [List.length_map]; omega, by rw [List.length_map]; omega, fun H1 r r0 r1 hP1 k1 => ?_⟩
    have sqB := (Ky.of ((hid_kp k1).trans hid_le)).sqT sq0
    refine ⟨.ref p, rfl, ye_lst (n := 60) hP1 (ya_cons (ye_c (good_str (by decide) (by decide))) (fun h0 z0 => ya_cons (ye_c (good_str (by decide) (by decide))) (fun h1 z1 => ya_cons (ye_c (good_str (by decide) (by decide))) (fun h2 z2 => ya_cons (ye_c (good_str (by decide) (by decide))) (fun h3 z3 => ya_cons (ye_c (good_str (by decide) (by decide))) (fun h4 z4 => ya_cons (ye_c (good_int (by decide) (by decide) (by decide))) (fun h5 z5 => ya_cons (ye_c (good_non (by decide))) (fun h6 z6 => ya_cons (ye_c (good_bl (by decide))) (fun h7 z7 => ya_cons ((ye_tup (n := 12) (ya_cons (ye_c (good_str (by decide) (by decide))) (fun _ _ => ya_nil)) (by decide)).mono fun v H' s g => g.good ((hP1.same (((((((((Same.refl H1).trans z0).trans z1).trans z2).trans z3).trans z4).trans z5).trans z6).trans z7)).same s) (by decide)) (fun h8 z8 => ya_cons (ye_c (good_str (by decide) (by decide))) (fun h9 z9 => ya_cons (ye_ixT rfl ((Ky.of (((((((((((Same.refl H1).trans z0).trans z1).trans z2).trans z3).trans z4).trans z5).trans z6).trans z7).trans z8).trans z9)).sqT sqB) (at0) (goodc)) (fun h10 z10 => ya_cons (ye_c (good_str (by decide) (by decide))) (fun h11 z11 => ya_nil))))))))))))) (by decide) _ fun v H1' s1 g1 => ?_⟩
    obtain ⟨l, xs, rfl, l1, l2, hl, ln, gd⟩ := g1
    refine ⟨p, c, _, _, rfl, hP1.same s1, by omega, .inr ⟨l, xs, rfl, l1, l2, SqL.of hl, by omega, by omega, fun H2 odd hodd hP2 k2 => ?_⟩⟩
    have k12 := (k1.trans (Kp.of s1)).trans k2
    have godd : GoodA K p c 60 odd H2 := (gd odd hodd).kp k2
    clear sqB
    have sqB := (Ky.of ((hid_kp k12).trans hid_le)).sqT sq0
    refine ye_catL (n := 900) hP2 (ye_rep (n := 900) (k := 2) hP2 (ye_lst hP2 (ya_cons ((ye_cat (ye_cat (ye_cut (ye_var rfl (strs_good (m := 6) (n := 60) ((Ky.of (Same.refl H2)).sqT sqB) (by omega) hws2)) (fun _ _ => yo_none) (fun _ _ => yo_some (ye_var rfl ⟨_, rfl⟩))) (fun h5 z5 => ye_tup (n := 60) (ya_cons (ye_var rfl (godd.same ((Same.refl H2).trans z5))) (fun _ _ => ya_nil)) (by decide)) (by decide)) (fun h6 z6 => ye_cut (ye_var rfl (strs_good (m := 6) (n := 60) ((Ky.of ((Same.refl H2).trans z6)).sqT sqB) (by omega) hws2)) (fun _ _ => yo_some (fun Q q => ⟨.int r, rfl, r, 1, rfl, rfl, q _ _ (Same.refl _) ⟨_, rfl⟩⟩)) (fun _ _ => yo_none)) (by decide)).mono fun v H' s g => g.good ((hP2.same (Same.refl H2)).same s) (by decide)) (fun h0 z0 => ya_nil)) (by decide)) (by decide) (by decide)) (fun hB zB => ye_lst (hP2.same zB) (ya_cons ((ye_cut (ye_var rfl (strs_good (m := 6) (n := 60) ((Ky.of zB).sqT sqB) (by omega) hws2)) (fun _ _ => yo_none) (fun _ _ => yo_some (ye_c ⟨_, rfl⟩))).mono fun v H' s g => g.good ((hP2.same zB).same s) (by decide)) (fun h0 z0 => ya_cons ((ye_tup (n := 1) ya_nil (by decide)).mono fun v H' s g => g.good ((hP2.same (zB.trans z0)).same s) (by decide)) (fun h1 z1 => ya_cons (ye_list (hP2.same ((zB.trans z0).trans z1)) (ye_var rfl (strs_good (m := 6) (n := 60) ((Ky.of ((zB.trans z0).trans z1)).sqT sqB) (by omega) hws2)) (by decide)) (fun h2 z2 => ya_cons (ye_c (good_non (by decide))) (fun h3 z3 => ya_cons (ye_c (good_str (by decide) (by decide))) (fun h4 z4 => ya_cons (ye_ixT rfl ((Ky.of (((((zB.trans z0).trans z1).trans z2).trans z3).trans z4)).sqT sqB) at0 (goodc')) (fun h5 z5 => ya_nil))))))) (by decide)) (by decide) _ fun v H3 s3 g3 => ?_
    have k13 := k12.trans (Kp.of s3)
    have hP3 := hP2.same s3
    have sqC := (Ky.of ((hid_kp k13).trans hid_le)).sqT sq0
    refine ye_catL (n := 900) hP3 (ye_var rfl g3) (fun hC zC => ye_lst (hP3.same zC) (ya_cons ((ye_cat (ye_var rfl (strs_good (m := 6) (n := 60) ((Ky.of zC).sqT sqC) (by omega) hws2)) (fun _ _ => ye_tup (n := 60) (ya_cons (ye_c (good_str (by decide) (by decide))) (fun h0 z0 => ya_cons (ye_c (good_str (by decide) (by decide))) (fun h1 z1 => ya_cons (ye_c (good_str (by decide) (by decide))) (fun h2 z2 => ya_cons (ye_c (good_str (by decide) (by decide))) (fun h3 z3 => ya_cons (ye_c (good_str (by decide) (by decide))) (fun h4 z4 => ya_nil)))))) (by decide)) (by decide)).mono fun v H' s g => g.good ((hP3.same zC).same s) (by decide)) (fun h0 z0 => ya_cons ((ye_cat (ye_var rfl (strs_good (m := 6) (n := 60) ((Ky.of (zC.trans z0)).sqT sqC) (by omega) hws2)) (fun h7 z7 => ye_cut (ye_var rfl (strs_good (m := 6) (n := 60) ((Ky.of ((zC.trans z0).trans z7)).sqT sqC) (by omega) hws2)) (fun _ _ => yo_some (ye_var rfl ⟨_, rfl⟩)) (fun _ _ => yo_some (fun Q q => ⟨.int r, rfl, r, 1, rfl, rfl, q _ _ (Same.refl _) ⟨_, rfl⟩⟩))) (by decide)).mono fun v H' s g => g.good ((hP3.same (zC.trans z0)).same s) (by decide)) (fun h1 z1 => ya_cons ((ye_tup (n := 400) (ya_cons ((ye_var rfl (strs_good (m := 6) (n := 60) ((Ky.of ((zC.trans z0).trans z1)).sqT sqC) (by omega) hws2)).mono fun v H' s g => g.good ((hP3.same ((zC.trans z0).trans z1)).same s) (by decide)) (fun _ _ => ya_nil)) (by decide)).mono fun v H' s g => g.good ((hP3.same ((zC.trans z0).trans z1)).same s) (by decide)) (fun h2 z2 => ya_nil)))) (by decide)) (by decide) _ fun v2 H4 s4 g4 => ?_
    have k14 := k13.trans (Kp.of s4)
    obtain ⟨l', xs', rfl, l1', l2', hl', ln', gd'⟩ := g4
    refine ⟨.ref p, rfl, .ref l', rfl, p, c, _, _, rfl, hP3.same s4, by omega, .inr ⟨l', xs', rfl, l1', l2', SqL.of hl', by omega, by omega, fun H5 rr hrr hP5 k5 => ?_⟩⟩
    exact q H5 rr (k14.trans k5) (hP5.le (by omega)) (Good.le ((gd' rr hrr).kp k5) (by decide))
end
end Cv
set_option Elab.async false
set_option linter.all false
set_option maxRecDepth 100000
set_option maxHeartbeats 400000
namespace Cv
open PySem PySem.Spec PyProof.Rows L2
/-- a sort, as a value -/
def SortV (K : PySem.W.Frag) (H : Hp) (x : V) : Prop := ∃ (a b : Addr) (z : Str) (ws : List Str), x = .ref a ∧ SqT K H a [.str z, .ref b] ∧ SqT K H b (ws.map V.str) ∧ z.length ≤ 8 ∧ Lets z ∧ 2 ≤ ws.length ∧ ws.length ≤ 6 ∧ ∀ c ∈ ws, c.length ≤ 4 ∧ Lets c
theorem SortV.ky {K : PySem.W.Frag} {H H' : Hp} {x : V} (h : SortV K H x) (k : Ky H H') : SortV K H' x := by
  obtain ⟨a, b, z, ws, e, h1, h2, r⟩ := h
  exact ⟨a, b, z, ws, e, k.sqT h1, k.sqT h2, r⟩
theorem SortV.good {K : PySem.W.Frag} {p c : Addr} {H : Hp} {x : V} (h : SortV K (hid p c H) x) : GoodA K p c 600 x H := by
  obtain ⟨a, b, z, ws, rfl, h1, h2, h3, h4, h5, h6, h7⟩ := h
  refine good_tup (n := 270) h1 (fun y hy => ?_) (by simp)
  rcases List.mem_cons.mp hy with rfl | hy
  · exact good_str (p := p) (c := c) (H := H) (lets_pl h4) (by omega)
  · rw [List.mem_singleton.mp hy]
    refine good_tup (n := 42) h2 (fun y hy => ?_) (by rw [List.length_map]; omega)
    obtain ⟨s, hs, rfl⟩ := List.mem_map.mp hy
    exact good_str (p := p) (c := c) (H := H) (lets_pl (h7 s hs).2) (by have := (h7 s hs).1; omega)
/-- a tuple of one to m small things -/
def TupN (K : PySem.W.Frag) (p c : Addr) (n m : Nat) (v : V) (H : Hp) : Prop := ∃ a xs, v = .ref a ∧ SqT K H a xs ∧ xs ≠ [] ∧ xs.length ≤ m ∧ ∀ x ∈ xs, GoodA K p c n x H
theorem cut1 {K : PySem.W.Frag} {p c : Addr} {σ : L2.St} {H : Hp} {i : Nat} {t : Addr} {xs : List V} {n : Nat} (h : σ[i]? = some (some (.ref t))) (sq : SqT K H t xs) (ne : xs ≠ []) (g : ∀ x ∈ xs, GoodA K p c n x H) :
    YE (tSl (rSlG K) (tVar i) tNoPart (tPart (tC (.int 1)))) σ H (TupN K p c n 1) := fun Q q => by
  have e1 : cutV xs none (some 1) = xs.take 1 := cut_to xs 1
  refine ⟨.ref t, h, 1, rfl, t, xs, rfl, sq, fun H' a s st => q _ _ s ⟨a, _, rfl, st, fun z => ?_, ?_, fun x hx => (g x (cut_mem hx)).same s⟩⟩
  · rw [e1] at z
    cases xs with
    | nil => exact ne rfl
    | cons y r => cases z
  · rw [e1, List.length_take]
    exact Nat.min_le_left _ _
theorem ye_repN {K : PySem.W.Frag} {p c : Addr} {σ : L2.St} {H : Hp} {ta : TE} {n m k : Nat} (h1 : YE ta σ H (TupN K p c n m)) (k2 : 2 ≤ k) (lk : k ≤ 1000) (lm : m ≤ 1000) : YE (tOp (rRepT K) ta (tC (.int (k : Nat)))) σ H (TupG K p c n (k * m)) := fun Q q => by
  refine h1 _ fun v H1 s1 g1 => ?_
  obtain ⟨a, xs, rfl, e3, ne, e4, e5⟩ := g1
  refine ⟨a, (k : Nat), xs, rfl, rfl, e3, ne, by omega, by omega, by omega, fun t nt => ?_⟩
  have s4 := same_upd nt (o := .tup (List.replicate ((k : Nat) : Int).toNat xs).flatten)
  exact q _ _ (s1.trans s4) ⟨t, _, rfl, SqT.of upd_same, by rw [Int.toNat_natCast, len_flat]; exact Nat.mul_le_mul_left _ e4, fun x hx => (e5 x (mem_flat hx)).same s4⟩
theorem go_next {t u : TS} {D D2 : Ends} {σ : L2.St} {H : Hp} (e : D2.nx = tSeq t u D) (h : t { D with nx := u D } σ H) : tNext D2 σ H := by
  show D2.nx σ H
  rw [e]
  exact h
theorem go_seq {t u : TS} {D : Ends} {σ : L2.St} {H : Hp} (h : t { D with nx := u D } σ H) : tSeq t u D σ H := h
theorem go_asg {te : TE} {g : TG} {D : Ends} {σ : L2.St} {H : Hp} (h : te σ H fun v H1 => g v σ H1 D.nx) : tAsg te g D σ H := h
/-! ### a plan bent -/
abbrev sBt : Stmt := topS 67
abbrev nBt : List Str := ["_law_purse_here", "_law_thing", "_law_k", "_law_name", "_law_codes_here", "_law_way", "_law_some", "_law_sort", "_law_names"]
theorem scBt : FnScope nBt ["_law_purse_here", "_law_thing"] (defScope sBt) := ⟨rfl, rfl, rfl, by decide +kernel, rfl, by decide +kernel, by decide +kernel⟩
def spBt (K : PySem.W.Frag) : Sp := fun vs H Q _ => ∃ (p c : Addr) (T : Nat) (t : Addr) (xs : List V), vs = [.ref p, .ref t] ∧ Pur H p c T ∧ T ≤ 999980000 ∧ SqT K (hid p c H) t xs ∧ 1 ≤ xs.length ∧ xs.length ≤ 4 ∧ (∀ x ∈ xs, SortV K (hid p c H) x) ∧
  ∀ H' r, Kp p c H H' → Pur H' p c (T + 10) → GoodA K p c 20000 r H' → Q r H'
section
variable {P : Program} {w : World} {K : PySem.W.Frag} {mg : Str → Option Value} {base : Heap}
theorem ok_bt {f fD fK fC : Addr} {fd fdD fdK fdC : FuncData} {k : Nat} (F : Fun K "_law_bent" "_law_bent" sBt f fd) (D : At P w K mg base CX0 k "_law_draw" fD fdD ["_law_purse_here", "_law_out_of"] spDraw) (Pk : At P w K mg base CX0 k "_law_pick" fK fdK ["_law_purse_here", "_law_some"] (spPick K))
    (Bc : At P w K mg base CX0 k "_law_bent_codes" fC fdC ["_law_purse_here", "_law_codes_here"] (spBc K)) (ml : mg "len" = none) (mls : mg "list" = none) : FnOk P w K mg base CX0 (k + 1) f fd ["_law_purse_here", "_law_thing"] (spBt K) := by
  refine F.ok scBt (fun vs H Q E h => ?_) (fun cdv A outer s H vs Q E hr h => ?_)
  · obtain ⟨p, c, T, t, xs, rfl, _⟩ := h
    rfl
  · obtain ⟨p, c, T, t, xs, rfl, hP, hT, sq0, x1, x4, hxs, q⟩ := h
    refine ⟨_, pss_cons (ps_set (i := 2) scBt.nd rfl (.inl rfl) (pe_call D.ok hr (by rfl) D.g D.kp D.b .nil pass0 (pa_cons (pv 0) (pa_cons (pe_callB call_len_seq (by rfl) ml PySem.boot_len (pa_cons (pv 1) pa_nil)) pa_nil))))
      (pss_cons (ps_asg (pe_ix ix_tup (pv 1) (pv 2) (fun _ _ => rfl)) (pg_tup rfl (pgs_cons (pg_name (i := 3) scBt.nd rfl (.inl rfl)) (pgs_cons (pg_name (i := 4) scBt.nd rfl (.inl rfl)) pgs_nil))))
      (pss_cons (ps_set (i := 5) scBt.nd rfl (.inl rfl) (pe_call D.ok hr (by rfl) D.g D.kp D.b .nil pass0 (pa_cons (pv 0) (pa_cons pe_int pa_nil))))
      (pss_cons (ps_if (pt_cmpR op_eq (pv 5) pe_int (nomark _)) (pss_cons (ps_set (i := 6) scBt.nd rfl (.inl rfl) (pe_lst (pa_cons (pe_tup pa_nil) (pa_cons (pe_op op_repT (pe_slice sl_tupG (pv 1) po_none (po_some pe_int)) pe_int) (pa_cons (pe_callTy call_list_of (by rfl) mls (by decide +kernel) (pa_cons (pv 1) pa_nil)) (pa_cons pe_non (pa_cons (pe_ix ix_tup (pv 1) pe_int (fun _ _ => rfl)) (pa_cons pe_str (pa_cons pe_int (pa_cons (pe_tup (pa_cons (pv 1) pa_nil)) pa_nil)))))))))) (pss_one (ps_ret (pe_call Pk.ok hr (by rfl) Pk.g Pk.kp Pk.b .nil pass0 (pa_cons (pv 0) (pa_cons (pe_op op_cat (pv 6) (pe_lst (pa_cons (pe_op op_catG (pv 1) (pe_tup (pa_cons (pe_tup (pa_cons pe_str (pa_cons (pe_tup (pa_cons pe_str (pa_cons pe_str pa_nil))) pa_nil))) pa_nil))) pa_nil))) pa_nil)))))) pss_nil)
      (pss_cons (ps_if (pt_cmpR op_eq (pv 5) pe_int (nomark _)) (pss_one (ps_ret (pe_op op_catG (pv 1) (pe_slice sl_tupG (pv 1) (po_some (pv 2)) (po_some (pe_op op_add (pv 2) pe_int)))))) pss_nil)
      (pss_cons (ps_if (PW.pt (pw_and (pt_cmpR op_eq (pv 5) pe_int (nomark _)) (pw_and1 (pt_cmpR op_lt (pe_callB call_len_seq (by rfl) ml PySem.boot_len (pa_cons (pv 1) pa_nil)) pe_int (nomark _))))) (pss_cons (ps_set (i := 6) scBt.nd rfl (.inl rfl) (pe_lst (pa_cons (pe_op op_catG (pe_op op_repT (pe_slice sl_tupG (pv 1) po_none (po_some pe_int)) pe_int) (pe_tup (pa_cons (pe_tup (pa_cons pe_str (pa_cons (pe_tup pa_nil) pa_nil))) pa_nil))) (pa_cons (pe_op op_catG (pe_slice sl_tupG (pv 1) po_none (po_some pe_int)) (pe_slice sl_tupG (pv 1) po_none (po_some pe_int))) (pa_cons (pe_op op_repT (pe_slice sl_tupG (pv 1) po_none (po_some pe_int)) pe_int) (pa_cons (pe_op op_catG (pe_tup (pa_cons pe_non pa_nil)) (pe_op op_repT (pe_slice sl_tupG (pv 1) po_none (po_some pe_int)) pe_int)) pa_nil)))))) (pss_one (ps_ret (pe_call Pk.ok hr (by rfl) Pk.g Pk.kp Pk.b .nil pass0 (pa_cons (pv 0) (pa_cons (pe_op op_cat (pv 6) (pe_lst (pa_cons (pe_op op_catG (pe_op op_catG (pe_slice sl_tupG (pv 1) po_none (po_some pe_int)) (pe_tup (pa_cons pe_non (pa_cons (pe_tup (pa_cons pe_str (pa_cons pe_str pa_nil))) pa_nil)))) (pe_slice sl_tupG (pv 1) po_none (po_some pe_int))) pa_nil))) pa_nil)))))) pss_nil)
      (pss_cons (ps_set (i := 7) scBt.nd rfl (.inl rfl) (pe_tup (pa_cons (pv 3) (pa_cons (pv 4) pa_nil))))
      (pss_cons (ps_if (pt_cmpR op_in_seq (pv 5) (pe_lst (pa_cons pe_int (pa_cons pe_int pa_nil))) rfl) (pss_cons (ps_set (i := 8) scBt.nd rfl (.inl rfl) (pe_lst (pa_cons pe_str (pa_cons pe_str (pa_cons pe_str (pa_cons pe_str (pa_cons pe_str (pa_cons pe_int (pa_cons pe_non (pa_cons pe_bl (pa_cons (pe_tup (pa_cons pe_str pa_nil)) (pa_cons pe_str (pa_cons (pe_ix ix_tup (pe_ix ix_tup (pv 1) pe_int (fun _ _ => rfl)) pe_int (fun _ _ => rfl)) pa_nil))))))))))))) (pss_one (ps_set (i := 7) scBt.nd rfl (.inl rfl) (pe_tup (pa_cons (pe_call Pk.ok hr (by rfl) Pk.g Pk.kp Pk.b .nil pass0 (pa_cons (pv 0) (pa_cons (pv 8) pa_nil))) (pa_cons (pv 4) pa_nil)))))) pss_nil)
      (pss_cons (ps_if (pt_cmpR op_in_seq (pv 5) (pe_lst (pa_cons pe_int (pa_cons pe_int (pa_cons pe_int pa_nil)))) rfl) (pss_one (ps_set (i := 7) scBt.nd rfl (.inl rfl) (pe_tup (pa_cons (pv 3) (pa_cons (pe_call Bc.ok hr (by rfl) Bc.g Bc.kp Bc.b .nil pass0 (pa_cons (pv 0) (pa_cons (pv 4) pa_nil))) pa_nil))))) pss_nil)
      (pss_cons (ps_if (pt_cmpR op_eq (pv 5) pe_int (nomark _)) (pss_one (ps_set (i := 7) scBt.nd rfl (.inl rfl) (pe_call Pk.ok hr (by rfl) Pk.g Pk.kp Pk.b .nil pass0 (pa_cons (pv 0) (pa_cons (pe_lst (pa_cons (pe_tup (pa_cons (pv 3) pa_nil)) (pa_cons (pe_tup (pa_cons (pv 3) (pa_cons (pv 4) (pa_cons pe_int pa_nil)))) (pa_cons (pe_lst (pa_cons (pv 3) (pa_cons (pv 4) pa_nil))) (pa_cons pe_non (pa_cons (pv 3) (pa_cons (pe_tup (pa_cons (pv 4) (pa_cons (pv 3) pa_nil))) (pa_cons (pe_tup pa_nil) pa_nil)))))))) pa_nil))))) pss_nil)
      (pss_one (ps_ret (pe_op op_catG (pe_op op_catG (pe_slice sl_tupG (pv 1) po_none (po_some (pv 2))) (pe_tup (pa_cons (pv 7) pa_nil))) (pe_slice sl_tupG (pv 1) (po_some (pe_op op_add (pv 2) pe_int)) po_none))))))))))))), ?_⟩
    have sqH := (Ky.of (hid_le (p := p) (c := c) (H := H))).sqT sq0
    refine ⟨.ref p, rfl, .ref t, rfl, t, _, rfl, .inr sqH, p, c, T, _, rfl, hP, by omega, by omega, by omega, fun H1 r r0 r1 hP1 k1 => ?_⟩
    obtain ⟨x, hx, ax⟩ := mem_at (xs := xs) r0 r1
    have hxv := hxs x hx
    have Sh1 := (hid_kp k1).trans (hid_le (p := p) (c := c) (H := H1))
    obtain ⟨a, b, z, ws, rfl, sa, sb, hz, lz, w2, w6, hws⟩ := hxv
    refine ⟨.ref t, rfl, .int r, rfl, t, xs, r, _, rfl, rfl, (Ky.of Sh1).sqT sq0, ax, a, _, rfl, (Ky.of Sh1).sqT sa, rfl, _, _, rfl, _, _, rfl, rfl, ?_⟩
    refine ⟨.ref p, rfl, p, c, _, 9, rfl, hP1, by omega, by decide, by decide, fun H2 way y0 y1 hP2 k2 => ?_⟩
    have k12 := k1.trans k2
    have S2 := hid_kp k12
    have thS : SqT K H2 t xs := (Ky.of (S2.trans hid_le)).sqT sq0
    have thE : ∀ y ∈ xs, GoodA K p c 600 y H2 := fun y hy => ((hxs y hy).ky (.of S2)).good
    have thG : TupG K p c 600 4 (.ref t) H2 := ⟨t, xs, rfl, thS, x4, thE⟩
    have thNe : xs ≠ [] := fun e => by rw [e] at x1; exact absurd x1 (by decide)
    obtain ⟨x0, hx0, thA⟩ := mem_at (xs := xs) (i := 0) (by decide) (by omega)
    have thX := thE x0 hx0
    have gnm : GoodA K p c 600 (.str z) H2 := good_str (lets_pl lz) (by omega)
    have gcd : GoodA K p c 600 (.ref b) H2 := (strs_good (n := 42) (m := 6) ((Ky.of (S2.trans hid_le)).sqT sb) w6 fun y hy => ⟨by have := (hws y hy).1; omega, (hws y hy).2⟩).good hP2 (by decide)
    have fin : ∀ (H' : Hp) (srt : V) (y6 y8 : Option V) (wy : Int), Kp p c H2 H' → Pur H' p c (T + 9) → GoodA K p c 2100 srt H' →
        (tOp (rCatG K) (tOp (rCatG K) (tSl (rSlG K) (tVar 1) tNoPart (tPart (tVar 2))) (tTup (tCons (tVar 7) tNil))) (tSl (rSlG K) (tVar 1) (tPart (tOp (rI0 fun i j => .int (i + j)) (tVar 2) (tC (.int 1)))) tNoPart)) [some (.ref p), some (.ref t), some (.int r), some (.str z), some (.ref b), some (.int wy), y6, some srt, y8] H' Q := fun H' srt y6 y8 wy k' hP' g' => by
      have S' := hid_kp (k12.trans k')
      have thG' : TupG K p c 2100 4 (.ref t) H' := TupG.le ⟨t, xs, rfl, (Ky.of (S'.trans hid_le)).sqT sq0, x4, fun y hy => ((hxs y hy).ky (.of S')).good⟩ (by decide) (by decide)
      refine ye_cat (ye_cat (ye_cut (ye_var rfl thG') (fun _ _ => yo_none) (fun _ _ => yo_some (ye_var rfl ⟨_, rfl⟩))) (fun _ z5 => ye_tup (n := 2100) (ya_cons (ye_var rfl (g'.same z5)) (fun _ _ => ya_nil)) (by decide)) (by decide))
        (fun _ z6 => ye_cut (ye_var rfl (thG'.same z6)) (fun _ _ => yo_some (fun Q q => ⟨.int r, rfl, r, 1, rfl, rfl, q _ _ (Same.refl _) ⟨_, rfl⟩⟩)) (fun _ _ => yo_none)) (by decide) _ fun v H9 s9 g9 => ?_
      exact q _ _ ((k12.trans k').trans (Kp.of s9)) ((hP'.same s9).le (by omega)) (g9.good (hP'.same s9) (by decide))
    have cases9 : way = 0 ∨ way = 1 ∨ way = 2 ∨ way = 3 ∨ way = 4 ∨ way = 5 ∨ way = 6 ∨ way = 7 ∨ way = 8 := by omega
    rcases cases9 with rfl | rfl | rfl | rfl | rfl | rfl | rfl | rfl | rfl
    · refine ⟨_, rfl, rfl, _, rfl, ite2 (fun _ => ?_) (fun e => absurd (decide_eq_true rfl) e)⟩
      refine go_seq ?_
      refine go_asg ?_
      refine ye_lst (n := 4000) hP2 (ya_cons ((ye_tup (n := 1) ya_nil (by decide)).mono fun v H' s g => g.good ((hP2.same (Same.refl _)).same s) (by decide)) (fun h_8 z_8 => ya_cons ((ye_repN (k := 5) (cut1 (t := t) (xs := xs) rfl ((Ky.of ((Same.refl _).trans z_8)).sqT thS) thNe (fun y hy => (thE y hy).same ((Same.refl _).trans z_8))) (by decide) (by decide) (by decide)).mono fun v H' s g => g.good ((hP2.same ((Same.refl _).trans z_8)).same s) (by decide)) (fun h_9 z_9 => ya_cons (ye_list (hP2.same (((Same.refl _).trans z_8).trans z_9)) (ye_var rfl (TupG.le (thG.same (((Same.refl _).trans z_8).trans z_9)) (by decide) (by decide) : TupG K p c 600 4 (.ref t) _)) (by decide)) (fun h_10 z_10 => ya_cons (ye_c (good_non (by decide))) (fun h_11 z_11 => ya_cons (ye_ixT rfl ((Ky.of (((((Same.refl _).trans z_8).trans z_9).trans z_10).trans z_11)).sqT thS) thA (Good.le (thX.same (((((Same.refl _).trans z_8).trans z_9).trans z_10).trans z_11)) (by decide))) (fun h_12 z_12 => ya_cons (ye_c (good_str (by decide) (by decide))) (fun h_13 z_13 => ya_cons (ye_c (good_int (by decide) (by decide) (by decide))) (fun h_14 z_14 => ya_cons ((ye_tup (n := 2500) (ya_cons ((ye_var rfl (TupG.le (thG.same ((((((((Same.refl _).trans z_8).trans z_9).trans z_10).trans z_11).trans z_12).trans z_13).trans z_14)) (by decide) (by decide) : TupG K p c 600 4 (.ref t) _)).mono fun v H' s g => g.good ((hP2.same ((((((((Same.refl _).trans z_8).trans z_9).trans z_10).trans z_11).trans z_12).trans z_13).trans z_14)).same s) (by decide)) (fun h_7 z_7 => ya_nil)) (by decide)).mono fun v H' s g => g.good ((hP2.same ((((((((Same.refl _).trans z_8).trans z_9).trans z_10).trans z_11).trans z_12).trans z_13).trans z_14)).same s) (by decide)) (fun h_15 z_15 => ya_nil))))))))) (by decide) _ fun v3 H3 s3 g3 => ?_
      have hP3 := hP2.same s3
      refine ⟨.ref p, rfl, ye_catL (n := 4000) hP3 (ye_var rfl g3) (fun hB zB0 => (fun (zB : Same H2 hB) => ye_lst (hP2.same zB) (ya_cons ((ye_cat (ye_var rfl (TupG.le (thG.same zB) (by decide) (by decide) : TupG K p c 600 4 (.ref t) _)) (fun hh1 zz1 => ye_tup (n := 600) (ya_cons ((ye_tup (n := 60) (ya_cons (ye_c (good_str (by decide) (by decide))) (fun h_18 z_18 => ya_cons ((ye_tup (n := 20) (ya_cons (ye_c (good_str (by decide) (by decide))) (fun h_16 z_16 => ya_cons (ye_c (good_str (by decide) (by decide))) (fun h_17 z_17 => ya_nil))) (by decide)).mono fun v H' s g => g.good ((hP2.same ((zB.trans zz1).trans z_18)).same s) (by decide)) (fun h_19 z_19 => ya_nil))) (by decide)).mono fun v H' s g => g.good ((hP2.same (zB.trans zz1)).same s) (by decide)) (fun h_20 z_20 => ya_nil)) (by decide)) (by decide)).mono fun v H' s g => g.good ((hP2.same zB).same s) (by decide)) (fun h_21 z_21 => ya_nil)) (by decide)) (s3.trans zB0)) (by decide) _ fun v4 H4 s4 g4 => ?_⟩
      obtain ⟨l, ys, rfl, l1, l2, hl, ln, gd⟩ := g4
      refine ⟨p, c, _, _, rfl, hP3.same s4, by omega, .inr ⟨l, ys, rfl, l1, l2, SqL.of hl, by omega, by omega, fun H5 v hv hP5 k5 => ?_⟩⟩
      exact q H5 v (((k12.trans (Kp.of s3)).trans (Kp.of s4)).trans k5) (hP5.le (by omega)) (Good.le ((gd v hv).kp k5) (by decide))
    · refine ⟨_, rfl, rfl, _, rfl, ite2 (fun e => absurd (V.int.inj (of_decide_eq_true e)) (by decide)) (fun _ => ⟨_, rfl, rfl, _, rfl, ite2 (fun _ => ?_) (fun e => absurd (decide_eq_true rfl) e)⟩)⟩
      show tRet _ _ _ _
      show tOp _ _ _ _ _ _
      refine ye_cat (ye_var rfl (TupG.le (thG.same (Same.refl _)) (by decide) (by decide) : TupG K p c 600 4 (.ref t) _)) (fun hh1 zz1 => ye_cut (ye_var rfl (TupG.le (thG.same ((Same.refl _).trans zz1)) (by decide) (by decide) : TupG K p c 600 4 (.ref t) _)) (fun _ _ => yo_some (ye_var rfl ⟨_, rfl⟩)) (fun _ _ => yo_some (fun Q q => ⟨.int r, rfl, r, 1, rfl, rfl, q _ _ (Same.refl _) ⟨_, rfl⟩⟩))) (by decide) _ fun v H3 s3 g3 => ?_
      exact q _ _ (k12.trans (Kp.of s3)) ((hP2.same s3).le (by omega)) (g3.good (hP2.same s3) (by decide))
    · refine ⟨_, rfl, rfl, _, rfl, ite2 (fun e => absurd (V.int.inj (of_decide_eq_true e)) (by decide)) (fun _ => ⟨_, rfl, rfl, _, rfl, ite2 (fun e => absurd (V.int.inj (of_decide_eq_true e)) (by decide)) (fun _ => ⟨_, rfl, rfl, _, rfl, ite2 (fun e => absurd (V.int.inj (of_decide_eq_true e)) (by decide)) (fun _ => iteF ?_)⟩)⟩)⟩
      dsimp only [tNext]; refine go_seq ?_
      refine go_asg ?_
      refine ye_tup (n := 600) (ya_cons (ye_var (by rfl) gnm) (fun _ s => ya_cons (ye_var (by rfl) (gcd.same s)) (fun _ _ => ya_nil))) (by decide) _ fun v3 H3 s3 g3 => ?_
      refine ⟨_, rfl, (by show 2 ≤ sizeLine; decide), fun Da nDa => ⟨Da, _, rfl, .inl (SqL.of upd_same), rfl, rfl, _, rfl, ite2 (fun _ => ?_) (fun e => absurd (by decide) e)⟩⟩
      have sN := s3.trans (same_upd nDa (o := .lst [.int 2, .int 3]))
      generalize upd H3 Da (.lst [.int 2, .int 3]) = HN at sN ⊢
      obtain ⟨a0, b0, z0, ws0, e0, sa0, sb0, hz0, lz0, _⟩ := (hxs x0 hx0).ky (.of S2)
      subst e0
      have sqa0 := (Ky.of (hid_le (p := p) (c := c) (H := H2))).sqT sa0
      have gz0 : ∀ {H'}, GoodA K p c 100 (.str z0) H' := good_str (lets_pl lz0) (by omega)
      refine go_seq ?_
      refine go_asg ?_
      refine ye_lst (n := 100) (hP2.same sN) (ya_cons (ye_c (good_str (by decide) (by decide))) (fun h_36 z_36 => ya_cons (ye_c (good_str (by decide) (by decide))) (fun h_37 z_37 => ya_cons (ye_c (good_str (by decide) (by decide))) (fun h_38 z_38 => ya_cons (ye_c (good_str (by decide) (by decide))) (fun h_39 z_39 => ya_cons (ye_c (good_str (by decide) (by decide))) (fun h_40 z_40 => ya_cons (ye_c (good_int (by decide) (by decide) (by decide))) (fun h_41 z_41 => ya_cons (ye_c (good_non (by decide))) (fun h_42 z_42 => ya_cons (ye_c (good_bl (by decide))) (fun h_43 z_43 => ya_cons ((ye_tup (n := 12) (ya_cons (ye_c (good_str (by decide) (by decide))) (fun h_35 z_35 => ya_nil)) (by decide)).mono fun v H' s g => g.good ((hP2.same ((((((((sN.trans z_36).trans z_37).trans z_38).trans z_39).trans z_40).trans z_41).trans z_42).trans z_43)).same s) (by decide)) (fun h_44 z_44 => ya_cons (ye_c (good_str (by decide) (by decide))) (fun h_45 z_45 => ya_cons ((fun Q q => ⟨.ref t, rfl, t, xs, 0, _, rfl, rfl, (Ky.of ((((((((((sN.trans z_36).trans z_37).trans z_38).trans z_39).trans z_40).trans z_41).trans z_42).trans z_43).trans z_44).trans z_45)).sqT thS, thA, a0, _, 0, .str z0, rfl, rfl, (Ky.of ((((((((((sN.trans z_36).trans z_37).trans z_38).trans z_39).trans z_40).trans z_41).trans z_42).trans z_43).trans z_44).trans z_45)).sqT sqa0, atI_nat (j := 0) rfl, q _ _ (Same.refl _) gz0⟩)) (fun h_46 z_46 => ya_nil)))))))))))) (by decide) _ fun v4 H4 s4 g4 => ?_
      obtain ⟨l, ys, rfl, l1, l2, hl, ln, gd⟩ := g4
      have sB := sN.trans s4
      refine ⟨.ref p, rfl, .ref l, rfl, p, c, _, _, rfl, hP2.same sB, by omega, .inr ⟨l, ys, rfl, l1, l2, SqL.of hl, by omega, by omega, fun H5 nv hnv hP5 k5 => ?_⟩⟩
      have gN : GoodA K p c 600 nv H5 := Good.le ((gd nv hnv).kp k5) (by decide)
      have gC := (gcd.same sB).kp k5
      have kB := (Kp.of (p := p) (c := c) sB).trans k5
      refine ⟨.ref b, rfl, (by show 2 ≤ sizeLine; decide), fun t6 nt6 => ?_⟩
      have s6 := same_upd nt6 (o := .tup [nv, .ref b])
      have g6 : TupG K p c 600 2 (.ref t6) (upd H5 t6 (.tup [nv, .ref b])) := ⟨t6, _, rfl, SqT.of upd_same, Nat.le_refl 2, fun y hy => by
        rcases List.mem_cons.mp hy with rfl | hy
        · exact gN.same s6
        · rw [List.mem_singleton.mp hy]
          exact gC.same s6⟩
      have g7 := g6.good (k := 2100) (hP5.same s6) (by decide)
      have k7 := kB.trans (Kp.of s6)
      have hP7 := (hP5.same s6).le (T' := T + 9) (by omega)
      generalize upd H5 t6 (.tup [nv, .ref b]) = H7 at g7 k7 hP7 ⊢
      refine ⟨_, rfl, (by show 3 ≤ sizeLine; decide), fun Db nDb => ⟨Db, _, rfl, .inl (SqL.of upd_same), rfl, rfl, _, rfl, ite2 (fun e => absurd e (by decide)) (fun _ => ⟨_, rfl, rfl, _, rfl, ite2 (fun e => absurd (V.int.inj (of_decide_eq_true e)) (by decide)) (fun _ => ?_)⟩)⟩⟩
      have s8 := same_upd nDb (o := .lst [.int 4, .int 5, .int 6])
      exact fin _ _ _ _ _ (k7.trans (Kp.of s8)) (hP7.same s8) (g7.same s8)
    · refine ⟨_, rfl, rfl, _, rfl, ite2 (fun e => absurd (V.int.inj (of_decide_eq_true e)) (by decide)) (fun _ => ⟨_, rfl, rfl, _, rfl, ite2 (fun e => absurd (V.int.inj (of_decide_eq_true e)) (by decide)) (fun _ => ⟨_, rfl, rfl, _, rfl, ite2 (fun e => absurd (V.int.inj (of_decide_eq_true e)) (by decide)) (fun _ => iteF ?_)⟩)⟩)⟩
      dsimp only [tNext]; refine go_seq ?_
      refine go_asg ?_
      refine ye_tup (n := 600) (ya_cons (ye_var (by rfl) gnm) (fun _ s => ya_cons (ye_var (by rfl) (gcd.same s)) (fun _ _ => ya_nil))) (by decide) _ fun v3 H3 s3 g3 => ?_
      refine ⟨_, rfl, (by show 2 ≤ sizeLine; decide), fun Da nDa => ⟨Da, _, rfl, .inl (SqL.of upd_same), rfl, rfl, _, rfl, ite2 (fun _ => ?_) (fun e => absurd (by decide) e)⟩⟩
      have sN := s3.trans (same_upd nDa (o := .lst [.int 2, .int 3]))
      generalize upd H3 Da (.lst [.int 2, .int 3]) = HN at sN ⊢
      obtain ⟨a0, b0, z0, ws0, e0, sa0, sb0, hz0, lz0, _⟩ := (hxs x0 hx0).ky (.of S2)
      subst e0
      have sqa0 := (Ky.of (hid_le (p := p) (c := c) (H := H2))).sqT sa0
      have gz0 : ∀ {H'}, GoodA K p c 100 (.str z0) H' := good_str (lets_pl lz0) (by omega)
      refine go_seq ?_
      refine go_asg ?_
      refine ye_lst (n := 100) (hP2.same sN) (ya_cons (ye_c (good_str (by decide) (by decide))) (fun h_36 z_36 => ya_cons (ye_c (good_str (by decide) (by decide))) (fun h_37 z_37 => ya_cons (ye_c (good_str (by decide) (by decide))) (fun h_38 z_38 => ya_cons (ye_c (good_str (by decide) (by decide))) (fun h_39 z_39 => ya_cons (ye_c (good_str (by decide) (by decide))) (fun h_40 z_40 => ya_cons (ye_c (good_int (by decide) (by decide) (by decide))) (fun h_41 z_41 => ya_cons (ye_c (good_non (by decide))) (fun h_42 z_42 => ya_cons (ye_c (good_bl (by decide))) (fun h_43 z_43 => ya_cons ((ye_tup (n := 12) (ya_cons (ye_c (good_str (by decide) (by decide))) (fun h_35 z_35 => ya_nil)) (by decide)).mono fun v H' s g => g.good ((hP2.same ((((((((sN.trans z_36).trans z_37).trans z_38).trans z_39).trans z_40).trans z_41).trans z_42).trans z_43)).same s) (by decide)) (fun h_44 z_44 => ya_cons (ye_c (good_str (by decide) (by decide))) (fun h_45 z_45 => ya_cons ((fun Q q => ⟨.ref t, rfl, t, xs, 0, _, rfl, rfl, (Ky.of ((((((((((sN.trans z_36).trans z_37).trans z_38).trans z_39).trans z_40).trans z_41).trans z_42).trans z_43).trans z_44).trans z_45)).sqT thS, thA, a0, _, 0, .str z0, rfl, rfl, (Ky.of ((((((((((sN.trans z_36).trans z_37).trans z_38).trans z_39).trans z_40).trans z_41).trans z_42).trans z_43).trans z_44).trans z_45)).sqT sqa0, atI_nat (j := 0) rfl, q _ _ (Same.refl _) gz0⟩)) (fun h_46 z_46 => ya_nil)))))))))))) (by decide) _ fun v4 H4 s4 g4 => ?_
      obtain ⟨l, ys, rfl, l1, l2, hl, ln, gd⟩ := g4
      have sB := sN.trans s4
      refine ⟨.ref p, rfl, .ref l, rfl, p, c, _, _, rfl, hP2.same sB, by omega, .inr ⟨l, ys, rfl, l1, l2, SqL.of hl, by omega, by omega, fun H5 nv hnv hP5 k5 => ?_⟩⟩
      have gN : GoodA K p c 600 nv H5 := Good.le ((gd nv hnv).kp k5) (by decide)
      have gC := (gcd.same sB).kp k5
      have kB := (Kp.of (p := p) (c := c) sB).trans k5
      refine ⟨.ref b, rfl, (by show 2 ≤ sizeLine; decide), fun t6 nt6 => ?_⟩
      have s6 := same_upd nt6 (o := .tup [nv, .ref b])
      have g6 : TupG K p c 600 2 (.ref t6) (upd H5 t6 (.tup [nv, .ref b])) := ⟨t6, _, rfl, SqT.of upd_same, Nat.le_refl 2, fun y hy => by
        rcases List.mem_cons.mp hy with rfl | hy
        · exact gN.same s6
        · rw [List.mem_singleton.mp hy]
          exact gC.same s6⟩
      have g7 := g6.good (k := 2100) (hP5.same s6) (by decide)
      have k7 := kB.trans (Kp.of s6)
      have hP7 := (hP5.same s6).le (T' := T + 9) (by omega)
      generalize upd H5 t6 (.tup [nv, .ref b]) = H7 at g7 k7 hP7 ⊢
      refine ⟨_, rfl, (by show 3 ≤ sizeLine; decide), fun Db nDb => ⟨Db, _, rfl, .inl (SqL.of upd_same), rfl, rfl, _, rfl, ite2 (fun e => absurd e (by decide)) (fun _ => ⟨_, rfl, rfl, _, rfl, ite2 (fun e => absurd (V.int.inj (of_decide_eq_true e)) (by decide)) (fun _ => ?_)⟩)⟩⟩
      have s8 := same_upd nDb (o := .lst [.int 4, .int 5, .int 6])
      exact fin _ _ _ _ _ (k7.trans (Kp.of s8)) (hP7.same s8) (g7.same s8)
    · refine ⟨_, rfl, rfl, _, rfl, ite2 (fun e => absurd (V.int.inj (of_decide_eq_true e)) (by decide)) (fun _ => ⟨_, rfl, rfl, _, rfl, ite2 (fun e => absurd (V.int.inj (of_decide_eq_true e)) (by decide)) (fun _ => ⟨_, rfl, rfl, _, rfl, ite2 (fun e => absurd (V.int.inj (of_decide_eq_true e)) (by decide)) (fun _ => iteF ?_)⟩)⟩)⟩
      dsimp only [tNext]; refine go_seq ?_
      refine go_asg ?_
      refine ye_tup (n := 600) (ya_cons (ye_var (by rfl) gnm) (fun _ s => ya_cons (ye_var (by rfl) (gcd.same s)) (fun _ _ => ya_nil))) (by decide) _ fun v3 H3 s3 g3 => ?_
      refine ⟨_, rfl, (by show 2 ≤ sizeLine; decide), fun Da nDa => ⟨Da, _, rfl, .inl (SqL.of upd_same), rfl, rfl, _, rfl, ite2 (fun e => absurd e (by decide)) (fun _ => ?_)⟩⟩
      have sN0 := s3.trans (same_upd nDa (o := .lst [.int 2, .int 3]))
      refine ⟨_, rfl, (by show 3 ≤ sizeLine; decide), fun Db nDb => ⟨Db, _, rfl, .inl (SqL.of upd_same), rfl, rfl, _, rfl, ite2 (fun _ => ?_) (fun e => absurd (by decide) e)⟩⟩
      have sN := sN0.trans (same_upd nDb (o := .lst [.int 4, .int 5, .int 6]))
      generalize upd (upd H3 Da (.lst [.int 2, .int 3])) Db (.lst [.int 4, .int 5, .int 6]) = HN at sN ⊢
      refine ⟨.str z, rfl, .ref p, rfl, .ref b, rfl, p, c, _, b, ws, rfl, hP2.same sN, by omega, (Ky.of (S2.trans (hid_same sN))).sqT sb, w2, w6, hws, fun H5 cv k5 hP5 g5 => ?_⟩
      have gN : GoodA K p c 1000 (.str z) H5 := Good.le ((gnm.same sN).kp k5) (by decide)
      have kB := (Kp.of (p := p) (c := c) sN).trans k5
      refine ⟨(by show 2 ≤ sizeLine; decide), fun t6 nt6 => ?_⟩
      have s6 := same_upd nt6 (o := .tup [.str z, cv])
      have g6 : TupG K p c 1000 2 (.ref t6) (upd H5 t6 (.tup [.str z, cv])) := ⟨t6, _, rfl, SqT.of upd_same, Nat.le_refl 2, fun y hy => by
        rcases List.mem_cons.mp hy with rfl | hy
        · exact gN.same s6
        · rw [List.mem_singleton.mp hy]
          exact g5.same s6⟩
      refine ⟨_, rfl, rfl, _, rfl, ite2 (fun e => absurd (V.int.inj (of_decide_eq_true e)) (by decide)) (fun _ => ?_)⟩
      exact fin _ _ _ _ _ (kB.trans (Kp.of s6)) ((hP5.same s6).le (by omega)) (g6.good (k := 2100) (hP5.same s6) (by decide))
    · refine ⟨_, rfl, rfl, _, rfl, ite2 (fun e => absurd (V.int.inj (of_decide_eq_true e)) (by decide)) (fun _ => ⟨_, rfl, rfl, _, rfl, ite2 (fun e => absurd (V.int.inj (of_decide_eq_true e)) (by decide)) (fun _ => ⟨_, rfl, rfl, _, rfl, ite2 (fun e => absurd (V.int.inj (of_decide_eq_true e)) (by decide)) (fun _ => iteF ?_)⟩)⟩)⟩
      dsimp only [tNext]; refine go_seq ?_
      refine go_asg ?_
      refine ye_tup (n := 600) (ya_cons (ye_var (by rfl) gnm) (fun _ s => ya_cons (ye_var (by rfl) (gcd.same s)) (fun _ _ => ya_nil))) (by decide) _ fun v3 H3 s3 g3 => ?_
      refine ⟨_, rfl, (by show 2 ≤ sizeLine; decide), fun Da nDa => ⟨Da, _, rfl, .inl (SqL.of upd_same), rfl, rfl, _, rfl, ite2 (fun e => absurd e (by decide)) (fun _ => ?_)⟩⟩
      have sN0 := s3.trans (same_upd nDa (o := .lst [.int 2, .int 3]))
      refine ⟨_, rfl, (by show 3 ≤ sizeLine; decide), fun Db nDb => ⟨Db, _, rfl, .inl (SqL.of upd_same), rfl, rfl, _, rfl, ite2 (fun _ => ?_) (fun e => absurd (by decide) e)⟩⟩
      have sN := sN0.trans (same_upd nDb (o := .lst [.int 4, .int 5, .int 6]))
      generalize upd (upd H3 Da (.lst [.int 2, .int 3])) Db (.lst [.int 4, .int 5, .int 6]) = HN at sN ⊢
      refine ⟨.str z, rfl, .ref p, rfl, .ref b, rfl, p, c, _, b, ws, rfl, hP2.same sN, by omega, (Ky.of (S2.trans (hid_same sN))).sqT sb, w2, w6, hws, fun H5 cv k5 hP5 g5 => ?_⟩
      have gN : GoodA K p c 1000 (.str z) H5 := Good.le ((gnm.same sN).kp k5) (by decide)
      have kB := (Kp.of (p := p) (c := c) sN).trans k5
      refine ⟨(by show 2 ≤ sizeLine; decide), fun t6 nt6 => ?_⟩
      have s6 := same_upd nt6 (o := .tup [.str z, cv])
      have g6 : TupG K p c 1000 2 (.ref t6) (upd H5 t6 (.tup [.str z, cv])) := ⟨t6, _, rfl, SqT.of upd_same, Nat.le_refl 2, fun y hy => by
        rcases List.mem_cons.mp hy with rfl | hy
        · exact gN.same s6
        · rw [List.mem_singleton.mp hy]
          exact g5.same s6⟩
      refine ⟨_, rfl, rfl, _, rfl, ite2 (fun e => absurd (V.int.inj (of_decide_eq_true e)) (by decide)) (fun _ => ?_)⟩
      exact fin _ _ _ _ _ (kB.trans (Kp.of s6)) ((hP5.same s6).le (by omega)) (g6.good (k := 2100) (hP5.same s6) (by decide))
    · refine ⟨_, rfl, rfl, _, rfl, ite2 (fun e => absurd (V.int.inj (of_decide_eq_true e)) (by decide)) (fun _ => ⟨_, rfl, rfl, _, rfl, ite2 (fun e => absurd (V.int.inj (of_decide_eq_true e)) (by decide)) (fun _ => ⟨_, rfl, rfl, _, rfl, ite2 (fun e => absurd (V.int.inj (of_decide_eq_true e)) (by decide)) (fun _ => iteF ?_)⟩)⟩)⟩
      dsimp only [tNext]; refine go_seq ?_
      refine go_asg ?_
      refine ye_tup (n := 600) (ya_cons (ye_var (by rfl) gnm) (fun _ s => ya_cons (ye_var (by rfl) (gcd.same s)) (fun _ _ => ya_nil))) (by decide) _ fun v3 H3 s3 g3 => ?_
      refine ⟨_, rfl, (by show 2 ≤ sizeLine; decide), fun Da nDa => ⟨Da, _, rfl, .inl (SqL.of upd_same), rfl, rfl, _, rfl, ite2 (fun e => absurd e (by decide)) (fun _ => ?_)⟩⟩
      have sN0 := s3.trans (same_upd nDa (o := .lst [.int 2, .int 3]))
      refine ⟨_, rfl, (by show 3 ≤ sizeLine; decide), fun Db nDb => ⟨Db, _, rfl, .inl (SqL.of upd_same), rfl, rfl, _, rfl, ite2 (fun _ => ?_) (fun e => absurd (by decide) e)⟩⟩
      have sN := sN0.trans (same_upd nDb (o := .lst [.int 4, .int 5, .int 6]))
      generalize upd (upd H3 Da (.lst [.int 2, .int 3])) Db (.lst [.int 4, .int 5, .int 6]) = HN at sN ⊢
      refine ⟨.str z, rfl, .ref p, rfl, .ref b, rfl, p, c, _, b, ws, rfl, hP2.same sN, by omega, (Ky.of (S2.trans (hid_same sN))).sqT sb, w2, w6, hws, fun H5 cv k5 hP5 g5 => ?_⟩
      have gN : GoodA K p c 1000 (.str z) H5 := Good.le ((gnm.same sN).kp k5) (by decide)
      have kB := (Kp.of (p := p) (c := c) sN).trans k5
      refine ⟨(by show 2 ≤ sizeLine; decide), fun t6 nt6 => ?_⟩
      have s6 := same_upd nt6 (o := .tup [.str z, cv])
      have g6 : TupG K p c 1000 2 (.ref t6) (upd H5 t6 (.tup [.str z, cv])) := ⟨t6, _, rfl, SqT.of upd_same, Nat.le_refl 2, fun y hy => by
        rcases List.mem_cons.mp hy with rfl | hy
        · exact gN.same s6
        · rw [List.mem_singleton.mp hy]
          exact g5.same s6⟩
      refine ⟨_, rfl, rfl, _, rfl, ite2 (fun e => absurd (V.int.inj (of_decide_eq_true e)) (by decide)) (fun _ => ?_)⟩
      exact fin _ _ _ _ _ (kB.trans (Kp.of s6)) ((hP5.same s6).le (by omega)) (g6.good (k := 2100) (hP5.same s6) (by decide))
    · refine ⟨_, rfl, rfl, _, rfl, ite2 (fun e => absurd (V.int.inj (of_decide_eq_true e)) (by decide)) (fun _ => ⟨_, rfl, rfl, _, rfl, ite2 (fun e => absurd (V.int.inj (of_decide_eq_true e)) (by decide)) (fun _ => ⟨_, rfl, rfl, _, rfl, ite2 (fun e => absurd (V.int.inj (of_decide_eq_true e)) (by decide)) (fun _ => iteF ?_)⟩)⟩)⟩
      dsimp only [tNext]; refine go_seq ?_
      refine go_asg ?_
      refine ye_tup (n := 600) (ya_cons (ye_var (by rfl) gnm) (fun _ s => ya_cons (ye_var (by rfl) (gcd.same s)) (fun _ _ => ya_nil))) (by decide) _ fun v3 H3 s3 g3 => ?_
      refine ⟨_, rfl, (by show 2 ≤ sizeLine; decide), fun Da nDa => ⟨Da, _, rfl, .inl (SqL.of upd_same), rfl, rfl, _, rfl, ite2 (fun e => absurd e (by decide)) (fun _ => ?_)⟩⟩
      have sN0 := s3.trans (same_upd nDa (o := .lst [.int 2, .int 3]))
      refine ⟨_, rfl, (by show 3 ≤ sizeLine; decide), fun Db nDb => ⟨Db, _, rfl, .inl (SqL.of upd_same), rfl, rfl, _, rfl, ite2 (fun e => absurd e (by decide)) (fun _ => ?_)⟩⟩
      have sN := sN0.trans (same_upd nDb (o := .lst [.int 4, .int 5, .int 6]))
      generalize upd (upd H3 Da (.lst [.int 2, .int 3])) Db (.lst [.int 4, .int 5, .int 6]) = HN at sN ⊢
      refine ⟨_, rfl, rfl, _, rfl, ite2 (fun _ => ?_) (fun e => absurd (decide_eq_true rfl) e)⟩
      refine ⟨.ref p, rfl, ye_lst (n := 2000) (hP2.same sN) (ya_cons ((ye_tup (n := 600) (ya_cons (ye_var rfl (gnm.same sN)) (fun h_47 z_47 => ya_nil)) (by decide)).mono fun v H' s g => g.good ((hP2.same sN).same s) (by decide)) (fun h_55 z_55 => ya_cons ((ye_tup (n := 600) (ya_cons (ye_var rfl (gnm.same (sN.trans z_55))) (fun h_48 z_48 => ya_cons (ye_var rfl (gcd.same ((sN.trans z_55).trans z_48))) (fun h_49 z_49 => ya_cons (ye_c (good_int (by decide) (by decide) (by decide))) (fun h_50 z_50 => ya_nil)))) (by decide)).mono fun v H' s g => g.good ((hP2.same (sN.trans z_55)).same s) (by decide)) (fun h_56 z_56 => ya_cons ((ye_lst (n := 600) (hP2.same ((sN.trans z_55).trans z_56)) (ya_cons (ye_var rfl (gnm.same ((sN.trans z_55).trans z_56))) (fun h_51 z_51 => ya_cons (ye_var rfl (gcd.same (((sN.trans z_55).trans z_56).trans z_51))) (fun h_52 z_52 => ya_nil))) (by decide)).mono fun v H' s g => g.good (by decide)) (fun h_57 z_57 => ya_cons (ye_c (good_non (by decide))) (fun h_58 z_58 => ya_cons (ye_var rfl (Good.le (gnm.same ((((sN.trans z_55).trans z_56).trans z_57).trans z_58)) (by decide))) (fun h_59 z_59 => ya_cons ((ye_tup (n := 600) (ya_cons (ye_var rfl (gcd.same (((((sN.trans z_55).trans z_56).trans z_57).trans z_58).trans z_59))) (fun h_53 z_53 => ya_cons (ye_var rfl (gnm.same ((((((sN.trans z_55).trans z_56).trans z_57).trans z_58).trans z_59).trans z_53))) (fun h_54 z_54 => ya_nil))) (by decide)).mono fun v H' s g => g.good ((hP2.same (((((sN.trans z_55).trans z_56).trans z_57).trans z_58).trans z_59)).same s) (by decide)) (fun h_60 z_60 => ya_cons ((ye_tup (n := 1) ya_nil (by decide)).mono fun v H' s g => g.good ((hP2.same ((((((sN.trans z_55).trans z_56).trans z_57).trans z_58).trans z_59).trans z_60)).same s) (by decide)) (fun h_61 z_61 => ya_nil)))))))) (by decide) _ fun v4 H4 s4 g4 => ?_⟩
      obtain ⟨l, ys, rfl, l1, l2, hl, ln, gd⟩ := g4
      have sB := sN.trans s4
      refine ⟨p, c, _, _, rfl, hP2.same sB, by omega, .inr ⟨l, ys, rfl, l1, l2, SqL.of hl, by omega, by omega, fun H5 sv hsv hP5 k5 => ?_⟩⟩
      exact fin _ _ _ _ _ ((Kp.of (p := p) (c := c) sB).trans k5) (hP5.le (by omega)) (Good.le ((gd sv hsv).kp k5) (by decide))
    · refine ⟨_, rfl, rfl, _, rfl, ite2 (fun e => absurd (V.int.inj (of_decide_eq_true e)) (by decide)) (fun _ => ⟨_, rfl, rfl, _, rfl, ite2 (fun e => absurd (V.int.inj (of_decide_eq_true e)) (by decide)) (fun _ => ⟨_, rfl, rfl, _, rfl, ite2 (fun _ => ⟨.ref t, rfl, t, xs, rfl, .inr thS, _, _, rfl, rfl, _, rfl, ite2 (fun l4 => ?_) (fun l4 => ?_)⟩) (fun e => absurd (decide_eq_true rfl) e)⟩)⟩)⟩
      · refine go_seq ?_
        refine go_asg ?_
        refine ye_lst (n := 7000) hP2 (ya_cons ((ye_cat (ye_repN (k := 2) (cut1 (t := t) (xs := xs) rfl ((Ky.of (Same.refl _)).sqT thS) thNe (fun y hy => (thE y hy).same (Same.refl _))) (by decide) (by decide) (by decide)) (fun hh1 zz1 => ye_tup (n := 600) (ya_cons ((ye_tup (n := 60) (ya_cons (ye_c (good_str (by decide) (by decide))) (fun h_22 z_22 => ya_cons ((ye_tup (n := 1) ya_nil (by decide)).mono fun v H' s g => g.good ((hP2.same (((Same.refl _).trans zz1).trans z_22)).same s) (by decide)) (fun h_23 z_23 => ya_nil))) (by decide)).mono fun v H' s g => g.good ((hP2.same ((Same.refl _).trans zz1)).same s) (by decide)) (fun h_24 z_24 => ya_nil)) (by decide)) (by decide)).mono fun v H' s g => g.good ((hP2.same (Same.refl _)).same s) (by decide)) (fun h_26 z_26 => ya_cons ((ye_cat (ye_cut (ye_var rfl (TupG.le (thG.same ((Same.refl _).trans z_26)) (by decide) (by decide) : TupG K p c 600 4 (.ref t) _)) (fun _ _ => yo_none) (fun _ _ => yo_some (ye_c ⟨_, rfl⟩))) (fun hh1 zz1 => ye_cut (ye_var rfl (TupG.le (thG.same (((Same.refl _).trans z_26).trans zz1)) (by decide) (by decide) : TupG K p c 600 4 (.ref t) _)) (fun _ _ => yo_none) (fun _ _ => yo_some (ye_c ⟨_, rfl⟩))) (by decide)).mono fun v H' s g => g.good ((hP2.same ((Same.refl _).trans z_26)).same s) (by decide)) (fun h_27 z_27 => ya_cons ((ye_repN (k := 4) (cut1 (t := t) (xs := xs) rfl ((Ky.of (((Same.refl _).trans z_26).trans z_27)).sqT thS) thNe (fun y hy => (thE y hy).same (((Same.refl _).trans z_26).trans z_27))) (by decide) (by decide) (by decide)).mono fun v H' s g => g.good ((hP2.same (((Same.refl _).trans z_26).trans z_27)).same s) (by decide)) (fun h_28 z_28 => ya_cons ((ye_cat (ye_tup (n := 600) (ya_cons (ye_c (good_non (by decide))) (fun h_25 z_25 => ya_nil)) (by decide)) (fun hh1 zz1 => ye_repN (k := 2) (cut1 (t := t) (xs := xs) rfl ((Ky.of (((((Same.refl _).trans z_26).trans z_27).trans z_28).trans zz1)).sqT thS) thNe (fun y hy => (thE y hy).same (((((Same.refl _).trans z_26).trans z_27).trans z_28).trans zz1))) (by decide) (by decide) (by decide)) (by decide)).mono fun v H' s g => g.good ((hP2.same ((((Same.refl _).trans z_26).trans z_27).trans z_28)).same s) (by decide)) (fun h_29 z_29 => ya_nil))))) (by decide) _ fun v3 H3 s3 g3 => ?_
        have hP3 := hP2.same s3
        refine ⟨.ref p, rfl, ye_catL (n := 7000) hP3 (ye_var rfl g3) (fun hB zB0 => (fun (zB : Same H2 hB) => ye_lst (hP2.same zB) (ya_cons ((ye_cat (ye_cat (ye_cut (ye_var rfl (TupG.le (thG.same zB) (by decide) (by decide) : TupG K p c 600 4 (.ref t) _)) (fun _ _ => yo_none) (fun _ _ => yo_some (ye_c ⟨_, rfl⟩))) (fun hh1 zz1 => ye_tup (n := 600) (ya_cons (ye_c (good_non (by decide))) (fun h_32 z_32 => ya_cons ((ye_tup (n := 20) (ya_cons (ye_c (good_str (by decide) (by decide))) (fun h_30 z_30 => ya_cons (ye_c (good_str (by decide) (by decide))) (fun h_31 z_31 => ya_nil))) (by decide)).mono fun v H' s g => g.good ((hP2.same ((zB.trans zz1).trans z_32)).same s) (by decide)) (fun h_33 z_33 => ya_nil))) (by decide)) (by decide)) (fun hh2 zz2 => ye_cut (ye_var rfl (TupG.le (thG.same (zB.trans zz2)) (by decide) (by decide) : TupG K p c 600 4 (.ref t) _)) (fun _ _ => yo_none) (fun _ _ => yo_some (ye_c ⟨_, rfl⟩))) (by decide)).mono fun v H' s g => g.good ((hP2.same zB).same s) (by decide)) (fun h_34 z_34 => ya_nil)) (by decide)) (s3.trans zB0)) (by decide) _ fun v4 H4 s4 g4 => ?_⟩
        obtain ⟨l, ys, rfl, l1, l2, hl, ln, gd⟩ := g4
        refine ⟨p, c, _, _, rfl, hP3.same s4, by omega, .inr ⟨l, ys, rfl, l1, l2, SqL.of hl, by omega, by omega, fun H5 v hv hP5 k5 => ?_⟩⟩
        exact q H5 v (((k12.trans (Kp.of s3)).trans (Kp.of s4)).trans k5) (hP5.le (by omega)) (Good.le ((gd v hv).kp k5) (by decide))
      · dsimp only [tNext]; refine go_seq ?_
        refine go_asg ?_
        refine ye_tup (n := 600) (ya_cons (ye_var (by rfl) gnm) (fun _ s => ya_cons (ye_var (by rfl) (gcd.same s)) (fun _ _ => ya_nil))) (by decide) _ fun v3 H3 s3 g3 => ?_
        refine ⟨_, rfl, (by show 2 ≤ sizeLine; decide), fun Da nDa => ⟨Da, _, rfl, .inl (SqL.of upd_same), rfl, rfl, _, rfl, ite2 (fun e => absurd e (by decide)) (fun _ => ?_)⟩⟩
        have sN0 := s3.trans (same_upd nDa (o := .lst [.int 2, .int 3]))
        refine ⟨_, rfl, (by show 3 ≤ sizeLine; decide), fun Db nDb => ⟨Db, _, rfl, .inl (SqL.of upd_same), rfl, rfl, _, rfl, ite2 (fun e => absurd e (by decide)) (fun _ => ?_)⟩⟩
        have sN := sN0.trans (same_upd nDb (o := .lst [.int 4, .int 5, .int 6]))
        refine ⟨_, rfl, rfl, _, rfl, ite2 (fun e => absurd (V.int.inj (of_decide_eq_true e)) (by decide)) (fun _ => ?_)⟩
        exact fin _ _ _ _ _ (Kp.of sN) ((hP2.same sN).le (by omega)) ((g3.same ((same_upd nDa).trans (same_upd nDb))).good (hP2.same sN) (by decide))
end
end Cv
set_option Elab.async false
set_option linter.all false
set_option maxRecDepth 100000
set_option maxHeartbeats 1000000
namespace Cv
open PySem PySem.Spec PyProof.Rows L2
section
variable {X : Cx}
/-- repr(x), x any data, where nothing is being shown -/
theorem call_reprV (hg : X.A.guards = some []) : CallR X (.builtin "repr") (fun xs H Q => ∃ (v : V) (d : PyData), xs = [v] ∧ Dp X.K H v d ∧ d.showable = true ∧ d.hasDict = false ∧ X.A.units + (d.depth + 1) < cLine ∧ d.shown.length ≤ sizeLine ∧ Q (.str d.shown) H) := by
  intro pins s σ H xs us Q I r h
  obtain ⟨v, d, rfl, hd, h1, h2, h3, h4, q⟩ := h
  cases hd with
  | non =>
    obtain ⟨u, rfl, rx⟩ := vals1 r
    obtain rfl : u = Value.none := rx
    exact PySem.P.repr_of_none ⟨.str _, H, I.tok _, ⟨_, rfl⟩, q⟩
  | bl b =>
    obtain ⟨u, rfl, rx⟩ := vals1 r
    obtain rfl : u = Value.bool b := rx
    refine PySem.P.repr_of_bool ⟨.str _, H, I.tok _, ⟨_, rfl⟩, ?_⟩
    cases b
    · exact q
    · exact q
  | int i =>
    obtain ⟨u, rfl, t, rfl⟩ := vals1 r
    exact PySem.P.repr_of_int (by simpa only [PyData.showable, decide_eq_true_iff] using h1) ⟨.str _, H, I.tok _, ⟨_, rfl⟩, q⟩
  | str z =>
    obtain ⟨u, rfl, t, rfl⟩ := vals1 r
    exact PySem.P.repr_of_str ⟨.str _, H, I.tok _, ⟨_, rfl⟩, q⟩ h4
  | lst a b => exact call_reprD hg pins s σ H _ us Q I r ⟨_, _, rfl, .lst a b, h1, h2, h3, h4, q⟩
  | tup a b => exact call_reprD hg pins s σ H _ us Q I r ⟨_, _, rfl, .tup a b, h1, h2, h3, h4, q⟩
end
theorem Pur.ky {H H' : Hp} {p c : Addr} {T : Nat} (h : Pur H p c T) (k : Ky H H') : Pur H' p c T := by
  obtain ⟨cs, n, hp, hc, r⟩ := h
  exact ⟨cs, n, k _ _ (fun _ z => nomatch z) hp, k _ _ (fun _ z => nomatch z) hc, r⟩
theorem Tabs.kp {P1 P2 : Addr} {H H' : Hp} {p c : Addr} {T : Nat} (h : Tabs P1 P2 H) (hP : Pur H p c T) (k : Kp p c H H') : Tabs P1 P2 H' := by
  obtain ⟨⟨ps, h1, r1⟩, qs, h2, r2⟩ := h
  obtain ⟨cs, n, hp, hc, _⟩ := hP
  exact ⟨⟨ps, k _ _ (ne_of h1 hp fun z => nomatch z) (ne_of h1 hc fun z => nomatch z) h1, r1⟩, qs, k _ _ (ne_of h2 hp fun z => nomatch z) (ne_of h2 hc fun z => nomatch z) h2, r2⟩
theorem wrongD_small (d : PyData) : pl (wrongD d) = true ∧ wt (wrongD d) ≤ 100 := by
  have key : ∀ (z : Str) (k : Nat), pl (.str z) = true → z.length ≤ 5 → k ≤ 4 → pl (.tuple [.str z, .int k]) = true ∧ wt (.tuple [.str z, .int k]) ≤ 100 := fun z k h1 h2 h3 => by
    refine ⟨?_, ?_⟩
    · simp only [pl, pls] at h1 ⊢
      rw [h1, decide_eq_true (show (0 : Int) ≤ (k : Nat) by omega), decide_eq_true (show ((k : Nat) : Int) ≤ 1000000 by omega)]
      rfl
    · simp only [wt, wts]
      omega
  have p0 : pl (.tuple [.str "plan"]) = true ∧ wt (.tuple [.str "plan"]) ≤ 100 := ⟨by decide +kernel, by decide +kernel⟩
  cases d with
  | tuple ds =>
    show pl (wrongDs ds) = true ∧ wt (wrongDs ds) ≤ 100
    unfold wrongDs
    split
    · rename_i fit
      split
      · rename_i k e
        have := List.mem_range.mp (List.mem_of_find?_eq_some e)
        exact key "sort" k (by decide +kernel) (by decide) (by omega)
      · split
        · rename_i k e
          have := List.mem_range.mp (List.mem_of_find?_eq_some e)
          exact key "twice" k (by decide +kernel) (by decide) (by omega)
        · exact ⟨rfl, by decide⟩
    · exact p0
  | _ => exact p0
theorem strs_of {K : PySem.W.Frag} {H : Hp} : ∀ {cs : List Str} {us : List V}, DpAll K H us (cs.map PyData.str) → us = cs.map V.str
  | [], _, h => by cases h; rfl
  | c :: r, _, h => by
    cases h with
    | cons h1 h2 =>
      cases h1
      rw [strs_of h2]
      rfl
/-- what is a plan, as values -/
theorem plan_of {K : PySem.W.Frag} {H : Hp} {v : V} {d : PyData} (h : Dp K H v d) (e : wrongD d = .none) : ∃ t xs, v = .ref t ∧ SqT K H t xs ∧ 1 ≤ xs.length ∧ xs.length ≤ 4 ∧ ∀ x ∈ xs, SortV K H x := by
  cases d with
  | tuple ds =>
    obtain ⟨t, xs, rfl, sq, hds⟩ := dp_tup h
    have len_ := dpAll_len hds
    have e' : wrongDs ds = .none := e
    unfold wrongDs at e'
    split at e'
    · rename_i fit
      split at e'
      · cases e'
      · rename_i e1
        refine ⟨t, xs, rfl, sq, by omega, by omega, fun x hx => ?_⟩
        obtain ⟨i, hi, ei⟩ := List.mem_iff_getElem.mp hx
        have hxi : xs[i]? = some x := by rw [List.getElem?_eq_getElem hi, ei]
        obtain ⟨dx, ex, hdx⟩ := dpAll_get hds hxi
        have hs : isSortD dx = true := by
          unfold firstK at e1
          have z := List.find?_eq_none.mp e1 i (List.mem_range.mpr (by omega))
          unfold notSort at z
          rw [List.getD_eq_getElem?_getD, ex] at z
          exact notF z
        obtain ⟨z, cs, rfl, z1, z2, c1, c2, c3⟩ := sort_of hs
        obtain ⟨a, ys, rfl, sqa, hys⟩ := dp_tup hdx
        obtain ⟨y1, y2, d1, d2, rfl, ed, hd1, hd2⟩ := two_of hys (dpAll_len hys)
        injection ed with ed1 ed2
        injection ed2 with ed2 _
        subst ed1 ed2
        cases hd1
        obtain ⟨b, us, rfl, sqb, hus⟩ := dp_tup hd2
        have eu : us = cs.map V.str := strs_of hus
        subst eu
        exact ⟨a, b, z, cs, rfl, sqa, sqb, z1, z2, c1, c2, c3⟩
    · cases e'
  | _ => cases e
/-- a drawn plan is small -/
theorem drawn_good {K : PySem.W.Frag} {H : Hp} {p c t : Addr} {T : Nat} {xs : List V} (hP : Pur H p c T) (ht : H t = some (.tup xs)) (l : xs.length ≤ 4) (h : ∀ v ∈ xs, SortL H v) : GoodA K p c 20000 (.ref t) H := by
  refine good_tup (n := 800) (hid_sqT hP (SqT.of ht)) (fun x hx => ?_) (by omega)
  obtain ⟨a, b, n, ws, rfl, ha, ⟨hb, h1, h2⟩, h3, h4⟩ := h x hx
  refine good_tup (n := 370) (hid_sqT hP (SqT.of ha)) (fun y hy => ?_) (by simp)
  rcases List.mem_cons.mp hy with rfl | hy
  · exact good_str (p := p) (c := c) (H := H) (lets_pl h4) (by omega)
  · rw [List.mem_singleton.mp hy]
    refine good_tup (n := 42) (hid_sqT hP (SqT.of hb)) (fun y hy => ?_) (by rw [List.length_map]; omega)
    obtain ⟨s, hs, rfl⟩ := List.mem_map.mp hy
    exact good_str (p := p) (c := c) (H := H) (lets_pl (h2 s hs).2) (by have := (h2 s hs).1; omega)
/-! ### the law -/
abbrev sLaw : Stmt := topS 69
abbrev nLaw : List Str := ["_law_script", "_law_purse_here", "_law_turn", "_law_thing", "_law_again", "_law_kept", "_law_due_here", "_law_which"]
theorem scLaw : FnScope nLaw ["_law_script"] (defScope sLaw) := ⟨rfl, rfl, rfl, by decide +kernel, rfl, by decide +kernel, by decide +kernel⟩
def spLaw (K : PySem.W.Frag) (P1 P2 : Addr) : Sp := fun vs H Q _ => ∃ (a : Addr) (ns : List Int), vs = [.ref a] ∧ SqL K H a (ns.map V.int) ∧ Tabs P1 P2 H ∧ ∀ H', Q (.bl true) H'
section
variable {P : Program} {w : World} {K : PySem.W.Frag} {mg : Str → Option Value} {base : Heap}
theorem ok_law {f P1 P2 f1 f2 f3 f4 f5 f6 f7 : Addr} {fd d1 d2 d3 d4 d5 d6 d7 : FuncData} {k : Nat} (F : Fun K "law" "law" sLaw f fd) (A1 : At P w K mg base CX0 k "_law_purse" f1 d1 ["_law_script"] (spPurse K)) (A2 : At P w K mg base CX0 k "_law_plan" f2 d2 ["_law_purse_here", "_law_least"] spPlan) (A3 : At P w K mg base CX0 k "_law_draw" f3 d3 ["_law_purse_here", "_law_out_of"] spDraw)
    (A4 : At P w K mg base CX0 k "_law_due" f4 d4 ["_law_thing"] (spLdu K)) (A5 : At P w K mg base CX0 k "_law_bent" f5 d5 ["_law_purse_here", "_law_thing"] (spBt K)) (A6 : At P w K mg base CX0 k "plan_wrong" f6 d6 ["thing"] (spPw K P1 P2)) (A7 : At P w K mg base CX0 k "_law_refused" f7 d7 ["_law_which", "_law_thing"] (spRf K P1 P2))
    (mr : mg "range" = none) (mp : mg "repr" = none) (mi : mg "int" = none) : FnAt callerA P w K mg base (k + 1) f fd ["_law_script"] (spLaw K P1 P2) := by
  refine fn_at F scLaw (fun vs H Q E h => ?_) (fun cdv outer s H vs Q E hr h => ?_)
  · obtain ⟨a, ns, rfl, _⟩ := h
    rfl
  · obtain ⟨a, ns, rfl, hS, hT, q⟩ := h
    refine ⟨_, (pss_cons (ps_set (i := 1) scLaw.nd rfl (.inl rfl) (pe_call A1.ok hr (by rfl) A1.g A1.kp A1.b .nil pass0 (pa_cons (pv 0) pa_nil)))
      (pss_cons (ps_for PassesOwn.never rfl (pi_range1 (by rfl) mr (pa_cons pe_int pa_nil)) (pg_name (i := 2) scLaw.nd rfl (.inl rfl))
        (pss_cons (ps_set (i := 3) scLaw.nd rfl (.inl rfl) (pe_call A2.ok hr (by rfl) A2.g A2.kp A2.b .nil pass0 (pa_cons (pv 1) (pa_cons pe_int pa_nil))))
        (pss_cons (ps_for PassesOwn.never rfl (pi_range1 (by rfl) mr (pa_cons (pe_call A3.ok hr (by rfl) A3.g A3.kp A3.b .nil pass0 (pa_cons (pv 1) (pa_cons pe_int pa_nil))) pa_nil)) (pg_name (i := 4) scLaw.nd rfl (.inl rfl))
          (pss_one (ps_if (pt_cmpR op_isN (pe_call A4.ok hr (by rfl) A4.g A4.kp A4.b .nil pass0 (pa_cons (pv 3) pa_nil)) pe_non rfl) (pss_one (ps_set (i := 3) scLaw.nd rfl (.inl rfl) (pe_call A5.ok hr (by rfl) A5.g A5.kp A5.b .nil pass0 (pa_cons (pv 1) (pa_cons (pv 3) pa_nil))))) pss_nil)))
        (pss_cons (ps_set (i := 5) scLaw.nd rfl (.inl rfl) (pe_callB (call_reprV rfl) (by rfl) mp (by decide +kernel) (pa_cons (pv 3) pa_nil)))
        (pss_cons (ps_set (i := 6) scLaw.nd rfl (.inl rfl) (pe_call A4.ok hr (by rfl) A4.g A4.kp A4.b .nil pass0 (pa_cons (pv 3) pa_nil)))
        (pss_cons (ps_for PassesOwn.never rfl (pi_range1 (by rfl) mr (pa_cons pe_int pa_nil)) (pg_name (i := 4) scLaw.nd rfl (.inl rfl))
          (pss_one (ps_if (pt_cmpR op_ne (pe_callB (call_reprV rfl) (by rfl) mp (by decide +kernel) (pa_cons (pe_call A6.ok hr (by rfl) A6.g A6.kp A6.b .nil pass0 (pa_cons (pv 3) pa_nil)) pa_nil)) (pe_callB (call_reprV rfl) (by rfl) mp (by decide +kernel) (pa_cons (pv 6) pa_nil)) (nomark _)) (pss_one (ps_ret pe_bl)) pss_nil)))
        (pss_cons (ps_for PassesOwn.never rfl (pi_range1 (by rfl) mr (pa_cons (pe_op op_mul pe_int (pe_callTy call_int1 (by rfl) mi (by decide +kernel) (pa_cons (pe_cmpR op_notN (pv 6) pe_non rfl) pa_nil))) pa_nil)) (pg_name (i := 7) scLaw.nd rfl (.inl rfl))
          (pss_one (ps_if (pt_not (pt_val (pe_call A7.ok hr (by rfl) A7.g A7.kp A7.b .nil pass0 (pa_cons (pv 7) (pa_cons (pv 3) pa_nil))))) (pss_one (ps_ret pe_bl)) pss_nil)))
        (pss_one (ps_if (pt_cmpR op_ne (pe_callB (call_reprV rfl) (by rfl) mp (by decide +kernel) (pa_cons (pv 3) pa_nil)) (pv 5) (nomark _)) (pss_one (ps_ret pe_bl)) pss_nil)))))))))
      (pss_one (ps_ret pe_bl)))), ?_⟩
    have hu : (callerA.deeper (envOfC (Str.ofString "law") (defScope sLaw) s.heap.objs.size f cdv)).units ≤ 20 := Nat.le_of_ble_eq_true rfl
    have reprs : ∀ {d : PyData}, pl d = true → wt d ≤ 20000 → d.showable = true ∧ d.hasDict = false ∧ (callerA.deeper (envOfC (Str.ofString "law") (defScope sLaw) s.heap.objs.size f cdv)).units + (d.depth + 1) < cLine ∧ d.shown.length ≤ sizeLine := fun {d} h1 h2 => by
      obtain ⟨a1, a2, a3, a4⟩ := shows d h1
      have hsl : sizeLine = 16777216 := by decide
      have hcl : cLine = 9900 := rfl
      exact ⟨a1, a2, by omega, by omega⟩
    -- the purse
    refine ⟨.ref a, rfl, a, ns, rfl, hS, fun H1 p c s1 np nc hP => ?_⟩
    have hT1 := hT.same s1
    refine ⟨8, rfl, by decide, by decide, ?_⟩
    refine for_range (lo := 0) (n := (8 : Int).toNat) (fun i σ H' => ∃ y2 y3 y4 y5 y6 y7, σ = [some (.ref a), some (.ref p), y2, y3, y4, y5, y6, y7] ∧ Pur H' p c (2000 * i) ∧ Tabs P1 P2 H')
      ⟨none, none, none, none, none, none, rfl, hP, hT1⟩ (fun i σ H' hi h => ?_) (fun σ H' h => q H')
    have hi8 : i < 8 := hi
    obtain ⟨y2, y3, y4, y5, y6, y7, rfl, hP2, hT2⟩ := h
    -- a plan
    refine ⟨.ref p, rfl, p, c, _, rfl, hP2, by omega, fun H3 t xs nt ht x1 x4 hxs hP3 hK3 => ?_⟩
    have g3 : GoodA K p c 20000 (.ref t) H3 := drawn_good hP3 ht x4 hxs
    have hT3 := hT2.kp hP2 hK3
    -- bent
    refine ⟨.ref p, rfl, p, c, _, 3, rfl, hP3, by omega, by decide, by decide, fun H4 r r0 r1 hP4 hK4 => ?_⟩
    have g4 := g3.kp hK4
    have hT4 := hT3.kp hP3 hK4
    refine ⟨r, rfl, by omega, by omega, ?_⟩
    refine for_range (lo := 0) (n := r.toNat) (fun j σ H' => ∃ v y4, σ = [some (.ref a), some (.ref p), some (.int (0 + (i : Nat))), some v, y4, y5, y6, y7] ∧ Pur H' p c (2000 * i + 1001 + 10 * j) ∧ Tabs P1 P2 H' ∧ GoodA K p c 20000 v H')
      ⟨_, _, rfl, hP4, hT4, g4⟩ (fun j σ H' hj h => ?_) (fun σ H' h => ?_)
    · obtain ⟨v, y4, rfl, hP5, hT5, g5⟩ := h
      obtain ⟨d, hd, pd, wd⟩ := g5
      refine ⟨v, rfl, v, d, rfl, (Ky.of hid_le).dp d v hd, pd, by omega, fun H6 r6 s6 d6 => ?_⟩
      have hP6 := hP5.same s6
      have hT6 := hT5.same s6
      have hd6 := (Ky.of (hid_same (p := p) (c := c) s6)).dp d v hd
      refine ⟨rfl, _, rfl, ite2 (fun e => ?_) (fun e => ?_)⟩
      · have e6 : r6 = .non := of_decide_eq_true e
        subst e6
        have ew : wrongD d = .none := by
          generalize wrongD d = y at d6
          cases d6
          rfl
        obtain ⟨t7, xs7, rfl, sq7, l1, l4, hs7⟩ := plan_of hd6 ew
        refine ⟨.ref p, rfl, .ref t7, rfl, p, c, _, t7, xs7, rfl, hP6, by omega, sq7, l1, l4, hs7, fun H8 r8 k8 hP8 g8 => ?_⟩
        exact ⟨r8, _, rfl, hP8.le (by omega), hT6.kp hP6 k8, g8⟩
      · exact ⟨v, _, rfl, hP6.le (by omega), hT6, d, hd6, pd, wd⟩
    obtain ⟨v, y4', rfl, hP5, hT5, d, hd, pd, wd⟩ := h
    obtain ⟨n1, n2, n3, n4⟩ := reprs pd wd
    have hdH := (Ky.of (hid_le (p := p) (c := c) (H := H'))).dp d v hd
    refine ⟨v, rfl, v, d, rfl, hdH, n1, n2, n3, n4, ?_⟩
    refine ⟨v, rfl, v, d, rfl, hdH, pd, by omega, fun H6 r6 s6 d6 => ?_⟩
    have hP6 := hP5.same s6
    have hT6 := hT5.same s6
    have hd6 := (Ky.of s6).dp d v hdH
    obtain ⟨w1, w2⟩ := wrongD_small d
    obtain ⟨m1, m2, m3, m4⟩ := reprs w1 (by omega)
    refine ⟨2, rfl, by decide, by decide, ?_⟩
    refine for_range (lo := 0) (n := (2 : Int).toNat) (fun j σ H' => ∃ y4, σ = [some (.ref a), some (.ref p), some (.int (0 + (i : Nat))), some v, y4, some (.str d.shown), some r6, y7] ∧ Tx P1 P2 H6 H') ⟨_, rfl, .refl hT6⟩ (fun j σ H7 hj h => ?_) (fun σ H7 h => ?_)
    · obtain ⟨y4, rfl, x7⟩ := h
      have hd7 := x7.2.dp d v hd6
      refine ⟨v, rfl, v, d, rfl, hd7, by omega, x7.1, fun H8 r8 x8 d8 => ?_⟩
      have d68 := (x7.trans x8).2.dp _ r6 d6
      refine ⟨r8, _, rfl, d8, m1, m2, m3, m4, r6, rfl, r6, _, rfl, d68, m1, m2, m3, m4, rfl, _, rfl, ite2 (fun e => absurd rfl (ndT e)) (fun _ => ⟨_, rfl, x7.trans x8⟩)⟩
    obtain ⟨y4'', rfl, x7⟩ := h
    have hd7 := x7.2.dp d v hd6
    have hP7 := hP6.ky x7.2
    have d67 := x7.2.dp _ r6 d6
    -- the end of a turn
    refine ⟨r6, rfl, rfl, .inr ⟨_, rfl, _, _, rfl, rfl, .inl ⟨by decide, by decide⟩, ?_⟩⟩
    cases hr6 : decide (r6 = V.non) with
    | true =>
      refine ⟨0, rfl, by decide, by decide, ?_⟩
      refine for_range (lo := 0) (n := (0 : Int).toNat) (fun j σ H' => ∃ y7, σ = [some (.ref a), some (.ref p), some (.int (0 + (i : Nat))), some v, y4'', some (.str d.shown), some r6, y7] ∧ Tx P1 P2 H7 H') ⟨_, rfl, .refl x7.1⟩ (fun j σ H8 hj h => absurd hj (Nat.not_lt_zero j)) (fun σ H8 h => ?_)
      obtain ⟨y7', rfl, x8⟩ := h
      have hd8 := x8.2.dp d v hd7
      exact ⟨v, rfl, v, d, rfl, hd8, n1, n2, n3, n4, _, rfl, rfl, _, rfl, ite2 (fun e => absurd rfl (ndT e)) (fun _ => ⟨_, _, _, _, _, _, rfl, (hP7.ky x8.2).le (by omega), x8.1⟩)⟩
    | false =>
      have no : wrongD d ≠ .none := fun z => by
        rw [z] at d67
        cases d67
        exact absurd hr6 (by decide)
      refine ⟨8, rfl, by decide, by decide, ?_⟩
      refine for_range (lo := 0) (n := (8 : Int).toNat) (fun j σ H' => ∃ y7, σ = [some (.ref a), some (.ref p), some (.int (0 + (i : Nat))), some v, y4'', some (.str d.shown), some r6, y7] ∧ Tx P1 P2 H7 H') ⟨_, rfl, .refl x7.1⟩ (fun j σ H8 hj h => ?_) (fun σ H8 h => ?_)
      · obtain ⟨y7', rfl, x8⟩ := h
        have hj8 : j < 8 := hj
        rw [Int.zero_add]
        refine ⟨_, rfl, v, rfl, j, v, d, rfl, hj8, x8.2.dp d v hd7, by omega, x8.1, no, fun H9 x9 => ⟨_, rfl, iteF ⟨_, rfl, x8.trans x9⟩⟩⟩
      · obtain ⟨y7', rfl, x8⟩ := h
        have hd8 := x8.2.dp d v hd7
        exact ⟨v, rfl, v, d, rfl, hd8, n1, n2, n3, n4, _, rfl, rfl, _, rfl, ite2 (fun e => absurd rfl (ndT e)) (fun _ => ⟨_, _, _, _, _, _, rfl, (hP7.ky x8.2).le (by omega), x8.1⟩)⟩
end
end Cv
set_option Elab.async false
set_option linter.all false
set_option maxRecDepth 100000
set_option maxHeartbeats 8000000
namespace Cv
open PySem PySem.Spec PyProof.Rows L2
/-! ### what the top has left -/
theorem tab_mk {K : PySem.W.Frag} {x : Str} {f c T : Addr} {oc e : Value} {od dd : Option Addr} {fd : FuncData} {sl sl2 : Array (Option Value)} {vs : Array Value} (a : PySem.W.nsIn K mainGlobals x = some (some (.ref f))) (l : K.lookup f = some ⟨oc, od, .func fd, sl⟩) (hc : fd.code = .ref c) (lc : K.lookup c = some ⟨e, dd, .fields vs, sl2⟩) (hv : vs[11]? = some (.ref T)) : PySem.W.tabIn K x = some (c, T) := by
  unfold PySem.W.tabIn
  simp only [a, l, hc, lc, hv]
theorem all_mk {P : Program} {w : World} {K : PySem.W.Frag} {h : Heap} {q0 : Program} {mg : Str → Option Value} {fa f0 f1 f2 f3 f4 f5 f6 f7 f8 f9 f10 f11 f12 f13 f14 f15 f16 f17 f18 f19 f20 f21 f22 f23 f24 f25 f26 f27 f28 f29 C0 c1 c2 C c3 c4 cc_1 TT_1 cc_5 TT_5 : Addr} (X : K.In h) (G : h.Ns mainGlobals mg) (hfa : mg "law" = some (.ref fa)) (TB : TabsOf q0 K h)
    {od0 an0 od1 an1 od2 an2 od3 an3 od4 an4 od5 an5 od6 an6 od7 an7 od8 an8 od9 an9 od10 an10 od11 an11 od12 an12 od13 an13 od14 an14 od15 an15 od16 an16 od17 an17 od18 an18 od19 an19 od20 an20 od21 an21 od22 an22 od23 an23 od24 an24 od25 an25 od26 an26 od27 an27 od28 an28 od29 an29 ddC1 ddC5 : Option Addr} {sl0 sl1 sl2 sl3 sl4 sl5 sl6 sl7 sl8 sl9 sl10 sl11 sl12 sl13 sl14 sl15 sl16 sl17 sl18 sl19 sl20 sl21 sl22 sl23 sl24 sl25 sl26 sl27 sl28 sl29 slC1 slC5 : Array (Option Value)} {oc0 kV0 dc0 pm0 ct0 oc1 kV1 dc1 pm1 ct1 oc2 kV2 dc2 pm2 ct2 oc3 kV3 dc3 pm3 ct3 oc4 kV4 dc4 pm4 ct4 oc5 kV5 dc5 pm5 ct5 oc6 kV6 dc6 pm6 ct6 oc7 kV7 dc7 pm7 ct7 oc8 kV8 dc8 pm8 ct8 oc9 kV9 dc9 pm9 ct9 oc10 kV10 dc10 pm10 ct10 oc11 kV11 dc11 pm11 ct11 oc12 kV12 dc12 pm12 ct12 oc13 kV13 dc13 pm13 ct13 oc14 kV14 dc14 pm14 ct14 oc15 kV15 dc15 pm15 ct15 oc16 kV16 dc16 pm16 ct16 oc17 kV17 dc17 pm17 ct17 oc18 kV18 dc18 pm18 ct18 oc19 kV19 dc19 pm19 ct19 oc20 kV20 dc20 pm20 ct20 oc21 kV21 dc21 pm21 ct21 oc22 kV22 dc22 pm22 ct22 oc23 kV23 dc23 pm23 ct23 oc24 kV24 dc24 pm24 ct24 oc25 kV25 dc25 pm25 ct25 oc26 kV26 dc26 pm26 ct26 oc27 kV27 dc27 pm27 ct27 oc28 kV28 dc28 pm28 ct28 oc29 kV29 dc29 pm29 ct29 cd0 cd2 cd3 cd4 cd6 cd7 cd8 cd9 cd10 cd11 cd12 cd13 cd14 cd15 cd16 cd17 cd18 cd19 cd20 cd21 cd22 cd23 cd24 cd25 cd26 cd27 cd28 cd29 eC1 eC5 : Value} {tk0 tk1 tk2 tk3 tk4 : Tok} {vC1 vC5 : Array Value}
    (a0 : PySem.W.nsIn K mainGlobals "is_small_letter" = some (some (.ref f0)))
    (l0 : K.lookup f0 = some ⟨oc0, od0, .func (PySem.W.fnOf "is_small_letter" "is_small_letter" (defArgs sSl) (defBody sSl) (defScope sSl) .none kV0 dc0 pm0 an0 cd0 ct0), sl0⟩)
    (c0x : PySem.W.codeIn K cd0 "is_small_letter" = true)
    (k0 : PySem.W.keepIn K (.ref f0) = true)
    (a1 : PySem.W.nsIn K mainGlobals "is_word" = some (some (.ref f1)))
    (l1 : K.lookup f1 = some ⟨oc1, od1, .func (PySem.W.fnOf "is_word" "is_word" (defArgs sIw) (defBody sIw) (defScope sIw) .none kV1 dc1 pm1 an1 (.ref cc_1) ct1), sl1⟩)
    (c1x : PySem.W.codeIn K (.ref cc_1) "is_word" = true)
    (k1 : PySem.W.keepIn K (.ref f1) = true)
    (lc1 : K.lookup cc_1 = some ⟨eC1, ddC1, .fields vC1, slC1⟩)
    (v11_1 : vC1[11]? = some (.ref TT_1))
    (rq1 : ((PyProof.Rows.recsOf q0).find? fun e => e.name == Str.ofString "is_word").isSome = true)
    (a2 : PySem.W.nsIn K mainGlobals "is_tuple_of" = some (some (.ref f2)))
    (l2 : K.lookup f2 = some ⟨oc2, od2, .func (PySem.W.fnOf "is_tuple_of" "is_tuple_of" (defArgs sTf) (defBody sTf) (defScope sTf) .none kV2 dc2 pm2 an2 cd2 ct2), sl2⟩)
    (c2x : PySem.W.codeIn K cd2 "is_tuple_of" = true)
    (k2 : PySem.W.keepIn K (.ref f2) = true)
    (a3 : PySem.W.nsIn K mainGlobals "is_name" = some (some (.ref f3)))
    (l3 : K.lookup f3 = some ⟨oc3, od3, .func (PySem.W.fnOf "is_name" "is_name" (defArgs sIn) (defBody sIn) (defScope sIn) .none kV3 dc3 pm3 an3 cd3 ct3), sl3⟩)
    (c3x : PySem.W.codeIn K cd3 "is_name" = true)
    (k3 : PySem.W.keepIn K (.ref f3) = true)
    (a4 : PySem.W.nsIn K mainGlobals "is_code" = some (some (.ref f4)))
    (l4 : K.lookup f4 = some ⟨oc4, od4, .func (PySem.W.fnOf "is_code" "is_code" (defArgs sIc) (defBody sIc) (defScope sIc) .none kV4 dc4 pm4 an4 cd4 ct4), sl4⟩)
    (c4x : PySem.W.codeIn K cd4 "is_code" = true)
    (k4 : PySem.W.keepIn K (.ref f4) = true)
    (a5 : PySem.W.nsIn K mainGlobals "are_unlike_codes" = some (some (.ref f5)))
    (l5 : K.lookup f5 = some ⟨oc5, od5, .func (PySem.W.fnOf "are_unlike_codes" "are_unlike_codes" (defArgs sUc) (defBody sUc) (defScope sUc) .none kV5 dc5 pm5 an5 (.ref cc_5) ct5), sl5⟩)
    (c5x : PySem.W.codeIn K (.ref cc_5) "are_unlike_codes" = true)
    (k5 : PySem.W.keepIn K (.ref f5) = true)
    (lc5 : K.lookup cc_5 = some ⟨eC5, ddC5, .fields vC5, slC5⟩)
    (v11_5 : vC5[11]? = some (.ref TT_5))
    (rq5 : ((PyProof.Rows.recsOf q0).find? fun e => e.name == Str.ofString "are_unlike_codes").isSome = true)
    (a6 : PySem.W.nsIn K mainGlobals "is_sort" = some (some (.ref f6)))
    (l6 : K.lookup f6 = some ⟨oc6, od6, .func (PySem.W.fnOf "is_sort" "is_sort" (defArgs sIs) (defBody sIs) (defScope sIs) .none kV6 dc6 pm6 an6 cd6 ct6), sl6⟩)
    (c6x : PySem.W.codeIn K cd6 "is_sort" = true)
    (k6 : PySem.W.keepIn K (.ref f6) = true)
    (a7 : PySem.W.nsIn K mainGlobals "plan_wrong" = some (some (.ref f7)))
    (l7 : K.lookup f7 = some ⟨oc7, od7, .func (PySem.W.fnOf "plan_wrong" "plan_wrong" (defArgs sPw) (defBody sPw) (defScope sPw) .none kV7 dc7 pm7 an7 cd7 ct7), sl7⟩)
    (c7x : PySem.W.codeIn K cd7 "plan_wrong" = true)
    (k7 : PySem.W.keepIn K (.ref f7) = true)
    (a8 : PySem.W.nsIn K mainGlobals "need_plan" = some (some (.ref f8)))
    (l8 : K.lookup f8 = some ⟨oc8, od8, .func (PySem.W.fnOf "need_plan" "need_plan" (defArgs sNp) (defBody sNp) (defScope sNp) .none kV8 dc8 pm8 an8 cd8 ct8), sl8⟩)
    (c8x : PySem.W.codeIn K cd8 "need_plan" = true)
    (k8 : PySem.W.keepIn K (.ref f8) = true)
    (a9 : PySem.W.nsIn K mainGlobals "plan_text" = some (some (.ref f9)))
    (l9 : K.lookup f9 = some ⟨oc9, od9, .func (PySem.W.fnOf "plan_text" "plan_text" (defArgs sPt) (defBody sPt) (defScope sPt) .none kV9 dc9 pm9 an9 cd9 ct9), sl9⟩)
    (c9x : PySem.W.codeIn K cd9 "plan_text" = true)
    (k9 : PySem.W.keepIn K (.ref f9) = true)
    (a10 : PySem.W.nsIn K mainGlobals "record_wrong" = some (some (.ref f10)))
    (l10 : K.lookup f10 = some ⟨oc10, od10, .func (PySem.W.fnOf "record_wrong" "record_wrong" (defArgs sRw) (defBody sRw) (defScope sRw) .none kV10 dc10 pm10 an10 cd10 ct10), sl10⟩)
    (c10x : PySem.W.codeIn K cd10 "record_wrong" = true)
    (k10 : PySem.W.keepIn K (.ref f10) = true)
    (a11 : PySem.W.nsIn K mainGlobals "book_wrong" = some (some (.ref f11)))
    (l11 : K.lookup f11 = some ⟨oc11, od11, .func (PySem.W.fnOf "book_wrong" "book_wrong" (defArgs sBw) (defBody sBw) (defScope sBw) .none kV11 dc11 pm11 an11 cd11 ct11), sl11⟩)
    (c11x : PySem.W.codeIn K cd11 "book_wrong" = true)
    (k11 : PySem.W.keepIn K (.ref f11) = true)
    (a12 : PySem.W.nsIn K mainGlobals "gaps" = some (some (.ref f12)))
    (l12 : K.lookup f12 = some ⟨oc12, od12, .func (PySem.W.fnOf "gaps" "gaps" (defArgs sGa) (defBody sGa) (defScope sGa) .none kV12 dc12 pm12 an12 cd12 ct12), sl12⟩)
    (c12x : PySem.W.codeIn K cd12 "gaps" = true)
    (k12 : PySem.W.keepIn K (.ref f12) = true)
    (a13 : PySem.W.nsIn K mainGlobals "tallies" = some (some (.ref f13)))
    (l13 : K.lookup f13 = some ⟨oc13, od13, .func (PySem.W.fnOf "tallies" "tallies" (defArgs sTa) (defBody sTa) (defScope sTa) .none kV13 dc13 pm13 an13 cd13 ct13), sl13⟩)
    (c13x : PySem.W.codeIn K cd13 "tallies" = true)
    (k13 : PySem.W.keepIn K (.ref f13) = true)
    (a14 : PySem.W.nsIn K mainGlobals "fitting" = some (some (.ref f14)))
    (l14 : K.lookup f14 = some ⟨oc14, od14, .func (PySem.W.fnOf "fitting" "fitting" (defArgs sFi) (defBody sFi) (defScope sFi) .none kV14 dc14 pm14 an14 cd14 ct14), sl14⟩)
    (c14x : PySem.W.codeIn K cd14 "fitting" = true)
    (k14 : PySem.W.keepIn K (.ref f14) = true)
    (a15 : PySem.W.nsIn K mainGlobals "read_record" = some (some (.ref f15)))
    (l15 : K.lookup f15 = some ⟨oc15, od15, .func (PySem.W.fnOf "read_record" "read_record" (defArgs sRr) (defBody sRr) (defScope sRr) .none kV15 dc15 pm15 an15 cd15 ct15), sl15⟩)
    (c15x : PySem.W.codeIn K cd15 "read_record" = true)
    (k15 : PySem.W.keepIn K (.ref f15) = true)
    (a16 : PySem.W.nsIn K mainGlobals "read_book" = some (some (.ref f16)))
    (l16 : K.lookup f16 = some ⟨oc16, od16, .func (PySem.W.fnOf "read_book" "read_book" (defArgs sRb) (defBody sRb) (defScope sRb) .none kV16 dc16 pm16 an16 cd16 ct16), sl16⟩)
    (c16x : PySem.W.codeIn K cd16 "read_book" = true)
    (k16 : PySem.W.keepIn K (.ref f16) = true)
    (a17 : PySem.W.nsIn K mainGlobals "_law_purse" = some (some (.ref f17)))
    (l17 : K.lookup f17 = some ⟨oc17, od17, .func (PySem.W.fnOf "_law_purse" "_law_purse" (defArgs sPurse) (defBody sPurse) (defScope sPurse) .none kV17 dc17 pm17 an17 cd17 ct17), sl17⟩)
    (c17x : PySem.W.codeIn K cd17 "_law_purse" = true)
    (k17 : PySem.W.keepIn K (.ref f17) = true)
    (a18 : PySem.W.nsIn K mainGlobals "_law_draw" = some (some (.ref f18)))
    (l18 : K.lookup f18 = some ⟨oc18, od18, .func (PySem.W.fnOf "_law_draw" "_law_draw" (defArgs sDraw) (defBody sDraw) (defScope sDraw) .none kV18 dc18 pm18 an18 cd18 ct18), sl18⟩)
    (c18x : PySem.W.codeIn K cd18 "_law_draw" = true)
    (k18 : PySem.W.keepIn K (.ref f18) = true)
    (a19 : PySem.W.nsIn K mainGlobals "_law_pick" = some (some (.ref f19)))
    (l19 : K.lookup f19 = some ⟨oc19, od19, .func (PySem.W.fnOf "_law_pick" "_law_pick" (defArgs sPick) (defBody sPick) (defScope sPick) .none kV19 dc19 pm19 an19 cd19 ct19), sl19⟩)
    (c19x : PySem.W.codeIn K cd19 "_law_pick" = true)
    (k19 : PySem.W.keepIn K (.ref f19) = true)
    (a20 : PySem.W.nsIn K mainGlobals "_law_word" = some (some (.ref f20)))
    (l20 : K.lookup f20 = some ⟨oc20, od20, .func (PySem.W.fnOf "_law_word" "_law_word" (defArgs sWord) (defBody sWord) (defScope sWord) .none kV20 dc20 pm20 an20 cd20 ct20), sl20⟩)
    (c20x : PySem.W.codeIn K cd20 "_law_word" = true)
    (k20 : PySem.W.keepIn K (.ref f20) = true)
    (a21 : PySem.W.nsIn K mainGlobals "_law_codes" = some (some (.ref f21)))
    (l21 : K.lookup f21 = some ⟨oc21, od21, .func (PySem.W.fnOf "_law_codes" "_law_codes" (defArgs sCodes) (defBody sCodes) (defScope sCodes) .none kV21 dc21 pm21 an21 cd21 ct21), sl21⟩)
    (c21x : PySem.W.codeIn K cd21 "_law_codes" = true)
    (k21 : PySem.W.keepIn K (.ref f21) = true)
    (a22 : PySem.W.nsIn K mainGlobals "_law_plan" = some (some (.ref f22)))
    (l22 : K.lookup f22 = some ⟨oc22, od22, .func (PySem.W.fnOf "_law_plan" "_law_plan" (defArgs sPlan) (defBody sPlan) (defScope sPlan) .none kV22 dc22 pm22 an22 cd22 ct22), sl22⟩)
    (c22x : PySem.W.codeIn K cd22 "_law_plan" = true)
    (k22 : PySem.W.keepIn K (.ref f22) = true)
    (a23 : PySem.W.nsIn K mainGlobals "_law_is_word" = some (some (.ref f23)))
    (l23 : K.lookup f23 = some ⟨oc23, od23, .func (PySem.W.fnOf "_law_is_word" "_law_is_word" (defArgs sLw) (defBody sLw) (defScope sLw) .none kV23 dc23 pm23 an23 cd23 ct23), sl23⟩)
    (c23x : PySem.W.codeIn K cd23 "_law_is_word" = true)
    (k23 : PySem.W.keepIn K (.ref f23) = true)
    (a24 : PySem.W.nsIn K mainGlobals "_law_is_sort" = some (some (.ref f24)))
    (l24 : K.lookup f24 = some ⟨oc24, od24, .func (PySem.W.fnOf "_law_is_sort" "_law_is_sort" (defArgs sLs) (defBody sLs) (defScope sLs) .none kV24 dc24 pm24 an24 cd24 ct24), sl24⟩)
    (c24x : PySem.W.codeIn K cd24 "_law_is_sort" = true)
    (k24 : PySem.W.keepIn K (.ref f24) = true)
    (a25 : PySem.W.nsIn K mainGlobals "_law_due" = some (some (.ref f25)))
    (l25 : K.lookup f25 = some ⟨oc25, od25, .func (PySem.W.fnOf "_law_due" "_law_due" (defArgs sLdu) (defBody sLdu) (defScope sLdu) .none kV25 dc25 pm25 an25 cd25 ct25), sl25⟩)
    (c25x : PySem.W.codeIn K cd25 "_law_due" = true)
    (k25 : PySem.W.keepIn K (.ref f25) = true)
    (a26 : PySem.W.nsIn K mainGlobals "_law_bent_codes" = some (some (.ref f26)))
    (l26 : K.lookup f26 = some ⟨oc26, od26, .func (PySem.W.fnOf "_law_bent_codes" "_law_bent_codes" (defArgs sBc) (defBody sBc) (defScope sBc) .none kV26 dc26 pm26 an26 cd26 ct26), sl26⟩)
    (c26x : PySem.W.codeIn K cd26 "_law_bent_codes" = true)
    (k26 : PySem.W.keepIn K (.ref f26) = true)
    (a27 : PySem.W.nsIn K mainGlobals "_law_bent" = some (some (.ref f27)))
    (l27 : K.lookup f27 = some ⟨oc27, od27, .func (PySem.W.fnOf "_law_bent" "_law_bent" (defArgs sBt) (defBody sBt) (defScope sBt) .none kV27 dc27 pm27 an27 cd27 ct27), sl27⟩)
    (c27x : PySem.W.codeIn K cd27 "_law_bent" = true)
    (k27 : PySem.W.keepIn K (.ref f27) = true)
    (a28 : PySem.W.nsIn K mainGlobals "_law_refused" = some (some (.ref f28)))
    (l28 : K.lookup f28 = some ⟨oc28, od28, .func (PySem.W.fnOf "_law_refused" "_law_refused" (defArgs sRf) (defBody sRf) (defScope sRf) .none kV28 dc28 pm28 an28 cd28 ct28), sl28⟩)
    (c28x : PySem.W.codeIn K cd28 "_law_refused" = true)
    (k28 : PySem.W.keepIn K (.ref f28) = true)
    (a29 : PySem.W.nsIn K mainGlobals "law" = some (some (.ref f29)))
    (l29 : K.lookup f29 = some ⟨oc29, od29, .func (PySem.W.fnOf "law" "law" (defArgs sLaw) (defBody sLaw) (defScope sLaw) .none kV29 dc29 pm29 an29 cd29 ct29), sl29⟩)
    (c29x : PySem.W.codeIn K cd29 "law" = true)
    (k29 : PySem.W.keepIn K (.ref f29) = true)
    (m0 : PySem.W.nsIn K mainGlobals "MOST_SORTS" = some (some (.int 4 tk0)))
    (m1 : PySem.W.nsIn K mainGlobals "LEAST_CODES" = some (some (.int 2 tk1)))
    (m2 : PySem.W.nsIn K mainGlobals "MOST_CODES" = some (some (.int 6 tk2)))
    (m3 : PySem.W.nsIn K mainGlobals "MOST_NAME" = some (some (.int 8 tk3)))
    (m4 : PySem.W.nsIn K mainGlobals "MOST_CODE" = some (some (.int 4 tk4)))
    (z_len : PySem.W.nsIn K mainGlobals "len" = some none)
    (z_range : PySem.W.nsIn K mainGlobals "range" = some none)
    (z_max : PySem.W.nsIn K mainGlobals "max" = some none)
    (z_tuple : PySem.W.nsIn K mainGlobals "tuple" = some none)
    (z_list : PySem.W.nsIn K mainGlobals "list" = some none)
    (z_enumerate : PySem.W.nsIn K mainGlobals "enumerate" = some none)
    (z_isinstance : PySem.W.nsIn K mainGlobals "isinstance" = some none)
    (z_ValueError : PySem.W.nsIn K mainGlobals "ValueError" = some none)
    (z_repr : PySem.W.nsIn K mainGlobals "repr" = some none)
    (z_int : PySem.W.nsIn K mainGlobals "int" = some none)
    (z_str : PySem.W.nsIn K mainGlobals "str" = some none)
    (z_all : PySem.W.nsIn K mainGlobals "all" = some none)
    (z_set : PySem.W.nsIn K mainGlobals "set" = some none)
    (q_C0 : PySem.W.nsIn K mainGlobals "CountError" = some (some (.ref C0)))
    (q_c1 : PySem.W.nsIn K mainGlobals "NoBook" = some (some (.ref c1)))
    (q_c2 : PySem.W.nsIn K mainGlobals "NoCodes" = some (some (.ref c2)))
    (q_C : PySem.W.nsIn K mainGlobals "NoPlan" = some (some (.ref C)))
    (q_c3 : PySem.W.nsIn K mainGlobals "NoRecord" = some (some (.ref c3)))
    (q_c4 : PySem.W.nsIn K mainGlobals "NoText" = some (some (.ref c4)))
    (x_C : PySem.W.excIn K C [.type "ValueError", .type "Exception", .type "BaseException", .type "object"] "ValueError.__new__" = true)
    (xk_C : PySem.W.keepIn K (.ref C) = true)
    (xb_C : PySem.W.subIn K (.ref C) (.type "BaseException") = some true)
    (xt_C : PySem.W.typeIn K (.ref C) = some (.type "type"))
    (e0 : PySem.W.subIn K (.ref C0) (.type "BaseException") = some true)
    (d0 : PySem.W.hasDictIn K C0 = true)
    (t0 : PySem.W.typeIn K (.ref C0) = some (.type "type"))
    (u0 : PySem.W.subIn K (.ref C) (.ref C0) = some true)
    (ga : PySem.W.findIn K (.ref C) "__getattribute__" = some (some (.builtin "BaseException.__getattribute__")))
    (gg : PySem.W.findIn K (.ref C) "__getattr__" = some none)
    (dC : PySem.W.hasDictIn K C = true)
    (ha : PySem.W.findIn K (.ref C) "__class__" = some (some (.builtin "object.__class__")))
    (hn : PySem.W.specialIn K (.builtin "object.__class__") "__get__" = some (some (.builtin "getset_descriptor.__get__")))
    (ht : PySem.W.takesIn K (.builtin "object.__class__") = some true)
    (hm : PySem.W.mroIn K C (.type "object") = some true)
    (y4 : PySem.W.kitAny K (.ref C) [.ref c1, .ref c2, .ref c3, .ref c4] = some false)
    (yv : PySem.W.kitOne K (.ref C) (.type "ValueError") = some true)
    (yc : PySem.W.kitOne K (.ref C) (.ref C) = some true)
    : LawT P w K 12 63 "_law_script" mg fa h := by
  have e := hfa.symm.trans (PySem.W.mg_of X G a29)
  cases e
  have F0 := fun_mk (st := sSl) l0 c0x k0
  have b0 := F0.binds (ps := ["sign"]) fun _ _ _ _ _ _ us hl => match us, hl with | [_], _ => rfl
  have g0 := PySem.W.mg_of X G a0
  have FC1 : FunC K "is_word" "is_word" sIw f1 cc_1 _ := ⟨⟨_, _, _, _, _, _, _, _, rfl, l1, c1x⟩, k1⟩
  have tI1 : PySem.W.tabIn K "is_word" = some (cc_1, TT_1) := tab_mk a1 l1 rfl lc1 v11_1
  have tB1 := TB _ _ _ rq1 tI1
  have F1 := fun_mk (st := sIw) l1 c1x k1
  have b1 := F1.binds (ps := ["thing", "most"]) fun _ _ _ _ _ _ us hl => match us, hl with | [_, _], _ => rfl
  have g1 := PySem.W.mg_of X G a1
  have F2 := fun_mk (st := sTf) l2 c2x k2
  have b2 := F2.binds (ps := ["thing", "many"]) fun _ _ _ _ _ _ us hl => match us, hl with | [_, _], _ => rfl
  have g2 := PySem.W.mg_of X G a2
  have F3 := fun_mk (st := sIn) l3 c3x k3
  have b3 := F3.binds (ps := ["thing"]) fun _ _ _ _ _ _ us hl => match us, hl with | [_], _ => rfl
  have g3 := PySem.W.mg_of X G a3
  have F4 := fun_mk (st := sIc) l4 c4x k4
  have b4 := F4.binds (ps := ["thing"]) fun _ _ _ _ _ _ us hl => match us, hl with | [_], _ => rfl
  have g4 := PySem.W.mg_of X G a4
  have FC5 : FunC K "are_unlike_codes" "are_unlike_codes" sUc f5 cc_5 _ := ⟨⟨_, _, _, _, _, _, _, _, rfl, l5, c5x⟩, k5⟩
  have tI5 : PySem.W.tabIn K "are_unlike_codes" = some (cc_5, TT_5) := tab_mk a5 l5 rfl lc5 v11_5
  have tB5 := TB _ _ _ rq5 tI5
  have F5 := fun_mk (st := sUc) l5 c5x k5
  have b5 := F5.binds (ps := ["things"]) fun _ _ _ _ _ _ us hl => match us, hl with | [_], _ => rfl
  have g5 := PySem.W.mg_of X G a5
  have F6 := fun_mk (st := sIs) l6 c6x k6
  have b6 := F6.binds (ps := ["thing"]) fun _ _ _ _ _ _ us hl => match us, hl with | [_], _ => rfl
  have g6 := PySem.W.mg_of X G a6
  have F7 := fun_mk (st := sPw) l7 c7x k7
  have b7 := F7.binds (ps := ["thing"]) fun _ _ _ _ _ _ us hl => match us, hl with | [_], _ => rfl
  have g7 := PySem.W.mg_of X G a7
  have F8 := fun_mk (st := sNp) l8 c8x k8
  have b8 := F8.binds (ps := ["plan"]) fun _ _ _ _ _ _ us hl => match us, hl with | [_], _ => rfl
  have g8 := PySem.W.mg_of X G a8
  have F9 := fun_mk (st := sPt) l9 c9x k9
  have b9 := F9.binds (ps := ["plan"]) fun _ _ _ _ _ _ us hl => match us, hl with | [_], _ => rfl
  have g9 := PySem.W.mg_of X G a9
  have F10 := fun_mk (st := sRw) l10 c10x k10
  have b10 := F10.binds (ps := ["plan", "thing"]) fun _ _ _ _ _ _ us hl => match us, hl with | [_, _], _ => rfl
  have g10 := PySem.W.mg_of X G a10
  have F11 := fun_mk (st := sBw) l11 c11x k11
  have b11 := F11.binds (ps := ["plan", "thing"]) fun _ _ _ _ _ _ us hl => match us, hl with | [_, _], _ => rfl
  have g11 := PySem.W.mg_of X G a11
  have F12 := fun_mk (st := sGa) l12 c12x k12
  have b12 := F12.binds (ps := ["plan", "record"]) fun _ _ _ _ _ _ us hl => match us, hl with | [_, _], _ => rfl
  have g12 := PySem.W.mg_of X G a12
  have F13 := fun_mk (st := sTa) l13 c13x k13
  have b13 := F13.binds (ps := ["plan", "book"]) fun _ _ _ _ _ _ us hl => match us, hl with | [_, _], _ => rfl
  have g13 := PySem.W.mg_of X G a13
  have F14 := fun_mk (st := sFi) l14 c14x k14
  have b14 := F14.binds (ps := ["plan", "book", "codes"]) fun _ _ _ _ _ _ us hl => match us, hl with | [_, _, _], _ => rfl
  have g14 := PySem.W.mg_of X G a14
  have F15 := fun_mk (st := sRr) l15 c15x k15
  have b15 := F15.binds (ps := ["plan", "text"]) fun _ _ _ _ _ _ us hl => match us, hl with | [_, _], _ => rfl
  have g15 := PySem.W.mg_of X G a15
  have F16 := fun_mk (st := sRb) l16 c16x k16
  have b16 := F16.binds (ps := ["plan", "text"]) fun _ _ _ _ _ _ us hl => match us, hl with | [_, _], _ => rfl
  have g16 := PySem.W.mg_of X G a16
  have F17 := fun_mk (st := sPurse) l17 c17x k17
  have b17 := F17.binds (ps := ["_law_script"]) fun _ _ _ _ _ _ us hl => match us, hl with | [_], _ => rfl
  have g17 := PySem.W.mg_of X G a17
  have F18 := fun_mk (st := sDraw) l18 c18x k18
  have b18 := F18.binds (ps := ["_law_purse_here", "_law_out_of"]) fun _ _ _ _ _ _ us hl => match us, hl with | [_, _], _ => rfl
  have g18 := PySem.W.mg_of X G a18
  have F19 := fun_mk (st := sPick) l19 c19x k19
  have b19 := F19.binds (ps := ["_law_purse_here", "_law_some"]) fun _ _ _ _ _ _ us hl => match us, hl with | [_, _], _ => rfl
  have g19 := PySem.W.mg_of X G a19
  have F20 := fun_mk (st := sWord) l20 c20x k20
  have b20 := F20.binds (ps := ["_law_purse_here", "_law_most"]) fun _ _ _ _ _ _ us hl => match us, hl with | [_, _], _ => rfl
  have g20 := PySem.W.mg_of X G a20
  have F21 := fun_mk (st := sCodes) l21 c21x k21
  have b21 := F21.binds (ps := ["_law_purse_here"]) fun _ _ _ _ _ _ us hl => match us, hl with | [_], _ => rfl
  have g21 := PySem.W.mg_of X G a21
  have F22 := fun_mk (st := sPlan) l22 c22x k22
  have b22 := F22.binds (ps := ["_law_purse_here", "_law_least"]) fun _ _ _ _ _ _ us hl => match us, hl with | [_, _], _ => rfl
  have g22 := PySem.W.mg_of X G a22
  have F23 := fun_mk (st := sLw) l23 c23x k23
  have b23 := F23.binds (ps := ["_law_thing", "_law_most"]) fun _ _ _ _ _ _ us hl => match us, hl with | [_, _], _ => rfl
  have g23 := PySem.W.mg_of X G a23
  have F24 := fun_mk (st := sLs) l24 c24x k24
  have b24 := F24.binds (ps := ["_law_thing"]) fun _ _ _ _ _ _ us hl => match us, hl with | [_], _ => rfl
  have g24 := PySem.W.mg_of X G a24
  have F25 := fun_mk (st := sLdu) l25 c25x k25
  have b25 := F25.binds (ps := ["_law_thing"]) fun _ _ _ _ _ _ us hl => match us, hl with | [_], _ => rfl
  have g25 := PySem.W.mg_of X G a25
  have F26 := fun_mk (st := sBc) l26 c26x k26
  have b26 := F26.binds (ps := ["_law_purse_here", "_law_codes_here"]) fun _ _ _ _ _ _ us hl => match us, hl with | [_, _], _ => rfl
  have g26 := PySem.W.mg_of X G a26
  have F27 := fun_mk (st := sBt) l27 c27x k27
  have b27 := F27.binds (ps := ["_law_purse_here", "_law_thing"]) fun _ _ _ _ _ _ us hl => match us, hl with | [_, _], _ => rfl
  have g27 := PySem.W.mg_of X G a27
  have F28 := fun_mk (st := sRf) l28 c28x k28
  have b28 := F28.binds (ps := ["_law_which", "_law_thing"]) fun _ _ _ _ _ _ us hl => match us, hl with | [_, _], _ => rfl
  have g28 := PySem.W.mg_of X G a28
  have F29 := fun_mk (st := sLaw) l29 c29x k29
  have n_len := PySem.W.mg_none_of X G z_len
  have n_range := PySem.W.mg_none_of X G z_range
  have n_max := PySem.W.mg_none_of X G z_max
  have n_tuple := PySem.W.mg_none_of X G z_tuple
  have n_list := PySem.W.mg_none_of X G z_list
  have n_enumerate := PySem.W.mg_none_of X G z_enumerate
  have n_isinstance := PySem.W.mg_none_of X G z_isinstance
  have n_ValueError := PySem.W.mg_none_of X G z_ValueError
  have n_repr := PySem.W.mg_none_of X G z_repr
  have n_int := PySem.W.mg_none_of X G z_int
  have n_str := PySem.W.mg_none_of X G z_str
  have n_all := PySem.W.mg_none_of X G z_all
  have n_set := PySem.W.mg_none_of X G z_set
  have v_MOST_SORTS := PySem.W.mg_of X G m0
  have v_LEAST_CODES := PySem.W.mg_of X G m1
  have v_MOST_CODES := PySem.W.mg_of X G m2
  have v_MOST_NAME := PySem.W.mg_of X G m3
  have v_MOST_CODE := PySem.W.mg_of X G m4
  have p_C0 := PySem.W.mg_of X G q_C0
  have p_c1 := PySem.W.mg_of X G q_c1
  have p_c2 := PySem.W.mg_of X G q_c2
  have p_C := PySem.W.mg_of X G q_C
  have p_c3 := PySem.W.mg_of X G q_c3
  have p_c4 := PySem.W.mg_of X G q_c4
  have xo : OwnX K mg "NoPlan" C := ⟨p_C, x_C, xk_C, xb_C, xt_C⟩
  have xn : Exn K mg C C0 c1 c2 c3 c4 := ⟨p_C0, p_C, p_c1, p_c2, p_c3, p_c4, n_isinstance, n_ValueError, PySem.W.exm_ref e0 d0 t0 u0, ⟨ga, gg, xb_C, dC, ha, hn, ht, hm⟩, y4, yv, yc⟩
  have dr : Dr K mg f18 f19 f20 _ _ _ := ⟨F18, b18, g18, F19, b19, g19, F20, b20, g20, n_len, n_range, n_max, n_tuple⟩
  refine ⟨PySem.W.fnOf "law" "law" (defArgs sLaw) (defBody sLaw) (defScope sLaw) .none kV29 dc29 pm29 an29 cd29 ct29, [(cc_1, TT_1), (cc_5, TT_5)], spLaw K TT_1 TT_5, fun q hq => ?_, fun s v => .of_eq rfl, fun H a ns hl hT hS => ⟨a, ns, rfl, hS, ⟨⟨#[], hT (cc_1, TT_1) List.mem_cons_self, trivial⟩, #[], hT (cc_5, TT_5) (List.mem_cons_of_mem _ List.mem_cons_self), trivial⟩, fun _ => rfl⟩, fun base _ _ tb => ?_⟩
  · rcases List.mem_cons.mp hq with rfl | hq
    · exact tB1
    · rw [List.mem_singleton.mp hq]
      exact tB5
  · have t1 := tb (cc_1, TT_1) List.mem_cons_self
    have t2 := tb (cc_5, TT_5) (List.mem_cons_of_mem _ List.mem_cons_self)
    have gW : ∀ k, FnOk P w K mg base CX0 (k + 3) f1 _ _ (spIw K TT_1 TT_5) := fun k => ok_iw FC1 t1 F0 b0 g0 n_len n_isinstance n_str n_all
    have gS : ∀ k, FnOk P w K mg base CX0 (k + 7) f6 _ _ (spIs K TT_1 TT_5) := fun k => ok_is F6 ⟨ok_tf (k := k + 5) F2 n_len n_isinstance n_tuple, k2, b2, g2⟩ ⟨ok_in (k := k + 5) F3 ⟨gW (k + 2), k1, b1, g1⟩ v_MOST_NAME, k3, b3, g3⟩ ⟨ok_uc (k := k + 4) FC5 t2 ⟨ok_ic (k := k + 3) F4 ⟨gW k, k1, b1, g1⟩ v_MOST_CODE, k4, b4, g4⟩ n_len n_set n_all, k5, b5, g5⟩ n_len n_isinstance n_tuple v_LEAST_CODES v_MOST_CODES
    have gP : ∀ k, FnOk P w K mg base CX0 (k + 8) f7 _ _ (spPw K TT_1 TT_5) := fun k => ok_pw F7 ⟨gS k, k6, b6, g6⟩ n_len n_isinstance n_tuple n_enumerate v_MOST_SORTS
    have gN : FnOk P w K mg base (CX P w) 9 f8 _ _ (spNp C K TT_1 TT_5) := ok_np F8 ⟨gP 0, k7, b7, g7⟩ xo
    have gR : FnOk P w K mg base CX0 11 f28 _ _ (spRf K TT_1 TT_5) := ok_rf (k := 10) F28 xn ⟨ok_pt F9 ⟨gN, k8, b8, g8⟩, k9, b9, g9⟩ ⟨ok_rw F10 ⟨gN, k8, b8, g8⟩, k10, b10, g10⟩ ⟨ok_bw F11 ⟨gN, k8, b8, g8⟩, k11, b11, g11⟩ ⟨ok_ga F12 ⟨gN, k8, b8, g8⟩, k12, b12, g12⟩ ⟨ok_ta F13 ⟨gN, k8, b8, g8⟩, k13, b13, g13⟩ ⟨ok_fi F14 ⟨gN, k8, b8, g8⟩, k14, b14, g14⟩ ⟨ok_rr F15 ⟨gN, k8, b8, g8⟩, k15, b15, g15⟩ ⟨ok_rb F16 ⟨gN, k8, b8, g8⟩, k16, b16, g16⟩
    exact ok_law (k := 11) F29 ⟨ok_purse (k := 10) F17, k17, b17, g17⟩ ⟨ok_plan (k := 6) F22 dr F21 b21 g21, k22, b22, g22⟩ ⟨ok_draw (k := 10) F18 n_len, k18, b18, g18⟩ ⟨ok_ldu (k := 10) F25 ⟨ok_lsrt (k := 9) F24 ⟨ok_lw (k := 8) F23 n_len n_isinstance n_str, k23, b23, g23⟩ n_len n_isinstance n_tuple n_all n_range, k24, b24, g24⟩ n_len n_isinstance n_tuple n_range, k25, b25, g25⟩ ⟨ok_bt (k := 10) F27 ⟨ok_draw (k := 9) F18 n_len, k18, b18, g18⟩ ⟨ok_pick (k := 8) F19 F18 b18 g18 n_len, k19, b19, g19⟩ ⟨ok_bc (k := 9) F26 ⟨ok_draw (k := 8) F18 n_len, k18, b18, g18⟩ ⟨ok_pick (k := 7) F19 F18 b18 g18 n_len, k19, b19, g19⟩ n_len n_list, k26, b26, g26⟩ n_len n_list, k27, b27, g27⟩ ⟨gP 3, k7, b7, g7⟩ ⟨gR, k28, b28, g28⟩ n_range n_repr n_int
end Cv
open PySem PySem.W PyProof.Rows
set_option maxRecDepth 100000 in
set_option maxHeartbeats 0 in
theorem PySem.Challenge.cw_countveil_k01_plans_looked_at_holds : PySem.Challenge.rw_countveil_k01_plans_looked_at.Holds := by
  w_on; o_law; k_head; (case hw => w_witness2)
  k_fill
  refine Cv.walk_atT (l := PySem.Challenge.rw_countveil_k01_plans_looked_at) (n := 63) (k := 12) (x := "_law_script") rfl (by decide) rfl ⟨rfl, by decide, by decide⟩ (fun w h Y => PySem.W.km_in_of Y) ?hK ?F
  case hK =>
    intro w
    exact (Eq.refl true)
  case F =>
    intro w mg fa h KX G hmg TB
    refine' Cv.all_mk KX G hmg TB ?a0 ?l0 ?c0x ?k0 ?a1 ?l1 ?c1x ?k1 ?lc1 ?v11_1 ?rq1 ?a2 ?l2 ?c2x ?k2 ?a3 ?l3 ?c3x ?k3 ?a4 ?l4 ?c4x ?k4 ?a5 ?l5 ?c5x ?k5 ?lc5 ?v11_5 ?rq5 ?a6 ?l6 ?c6x ?k6 ?a7 ?l7 ?c7x ?k7 ?a8 ?l8 ?c8x ?k8 ?a9 ?l9 ?c9x ?k9 ?a10 ?l10 ?c10x ?k10 ?a11 ?l11 ?c11x ?k11 ?a12 ?l12 ?c12x ?k12 ?a13 ?l13 ?c13x ?k13 ?a14 ?l14 ?c14x ?k14 ?a15 ?l15 ?c15x ?k15 ?a16 ?l16 ?c16x ?k16 ?a17 ?l17 ?c17x ?k17 ?a18 ?l18 ?c18x ?k18 ?a19 ?l19 ?c19x ?k19 ?a20 ?l20 ?c20x ?k20 ?a21 ?l21 ?c21x ?k21 ?a22 ?l22 ?c22x ?k22 ?a23 ?l23 ?c23x ?k23 ?a24 ?l24 ?c24x ?k24 ?a25 ?l25 ?c25x ?k25 ?a26 ?l26 ?c26x ?k26 ?a27 ?l27 ?c27x ?k27 ?a28 ?l28 ?c28x ?k28 ?a29 ?l29 ?c29x ?k29 ?m0 ?m1 ?m2 ?m3 ?m4 ?z_len ?z_range ?z_max ?z_tuple ?z_list ?z_enumerate ?z_isinstance ?z_ValueError ?z_repr ?z_int ?z_str ?z_all ?z_set ?q_C0 ?q_c1 ?q_c2 ?q_C ?q_c3 ?q_c4 ?x_C ?xk_C ?xb_C ?xt_C ?e0 ?d0 ?t0 ?u0 ?ga ?gg ?dC ?ha ?hn ?ht ?hm ?y4 ?yv ?yc
    (case a0 => k_is)
    (case l0 => k_is)
    (case c0x => k_is)
    (case k0 => k_is)
    (case a1 => k_is)
    (case l1 => k_is)
    (case c1x => k_is)
    (case k1 => k_is)
    (case lc1 => k_is)
    (case v11_1 => rfl)
    (case rq1 => first | rfl | decide +kernel)
    (case a2 => k_is)
    (case l2 => k_is)
    (case c2x => k_is)
    (case k2 => k_is)
    (case a3 => k_is)
    (case l3 => k_is)
    (case c3x => k_is)
    (case k3 => k_is)
    (case a4 => k_is)
    (case l4 => k_is)
    (case c4x => k_is)
    (case k4 => k_is)
    (case a5 => k_is)
    (case l5 => k_is)
    (case c5x => k_is)
    (case k5 => k_is)
    (case lc5 => k_is)
    (case v11_5 => rfl)
    (case rq5 => first | rfl | decide +kernel)
    (case a6 => k_is)
    (case l6 => k_is)
    (case c6x => k_is)
    (case k6 => k_is)
    (case a7 => k_is)
    (case l7 => k_is)
    (case c7x => k_is)
    (case k7 => k_is)
    (case a8 => k_is)
    (case l8 => k_is)
    (case c8x => k_is)
    (case k8 => k_is)
    (case a9 => k_is)
    (case l9 => k_is)
    (case c9x => k_is)
    (case k9 => k_is)
    (case a10 => k_is)
    (case l10 => k_is)
    (case c10x => k_is)
    (case k10 => k_is)
    (case a11 => k_is)
    (case l11 => k_is)
    (case c11x => k_is)
    (case k11 => k_is)
    (case a12 => k_is)
    (case l12 => k_is)
    (case c12x => k_is)
    (case k12 => k_is)
    (case a13 => k_is)
    (case l13 => k_is)
    (case c13x => k_is)
    (case k13 => k_is)
    (case a14 => k_is)
    (case l14 => k_is)
    (case c14x => k_is)
    (case k14 => k_is)
    (case a15 => k_is)
    (case l15 => k_is)
    (case c15x => k_is)
    (case k15 => k_is)
    (case a16 => k_is)
    (case l16 => k_is)
    (case c16x => k_is)
    (case k16 => k_is)
    (case a17 => k_is)
    (case l17 => k_is)
    (case c17x => k_is)
    (case k17 => k_is)
    (case a18 => k_is)
    (case l18 => k_is)
    (case c18x => k_is)
    (case k18 => k_is)
    (case a19 => k_is)
    (case l19 => k_is)
    (case c19x => k_is)
    (case k19 => k_is)
    (case a20 => k_is)
    (case l20 => k_is)
    (case c20x => k_is)
    (case k20 => k_is)
    (case a21 => k_is)
    (case l21 => k_is)
    (case c21x => k_is)
    (case k21 => k_is)
    (case a22 => k_is)
    (case l22 => k_is)
    (case c22x => k_is)
    (case k22 => k_is)
    (case a23 => k_is)
    (case l23 => k_is)
    (case c23x => k_is)
    (case k23 => k_is)
    (case a24 => k_is)
    (case l24 => k_is)
    (case c24x => k_is)
    (case k24 => k_is)
    (case a25 => k_is)
    (case l25 => k_is)
    (case c25x => k_is)
    (case k25 => k_is)
    (case a26 => k_is)
    (case l26 => k_is)
    (case c26x => k_is)
    (case k26 => k_is)
    (case a27 => k_is)
    (case l27 => k_is)
    (case c27x => k_is)
    (case k27 => k_is)
    (case a28 => k_is)
    (case l28 => k_is)
    (case c28x => k_is)
    (case k28 => k_is)
    (case a29 => k_is)
    (case l29 => k_is)
    (case c29x => k_is)
    (case k29 => k_is)
    (case m0 => k_is)
    (case m1 => k_is)
    (case m2 => k_is)
    (case m3 => k_is)
    (case m4 => k_is)
    (case z_len => k_is)
    (case z_range => k_is)
    (case z_max => k_is)
    (case z_tuple => k_is)
    (case z_list => k_is)
    (case z_enumerate => k_is)
    (case z_isinstance => k_is)
    (case z_ValueError => k_is)
    (case z_repr => k_is)
    (case z_int => k_is)
    (case z_str => k_is)
    (case z_all => k_is)
    (case z_set => k_is)
    (case q_C0 => k_is)
    (case q_c1 => k_is)
    (case q_c2 => k_is)
    (case q_C => k_is)
    (case q_c3 => k_is)
    (case q_c4 => k_is)
    (case x_C => first | k_exc | kernel_rfl)
    (case xk_C => k_is)
    (case xb_C => k_is)
    (case xt_C => k_is)
    (case e0 => k_is)
    (case d0 => k_is)
    (case t0 => k_is)
    (case u0 => first | rfl | k_is)
    (case ga => k_is)
    (case gg => k_is)
    (case dC => k_is)
    (case ha => k_is)
    (case hn => k_is)
    (case ht => k_is)
    (case hm => k_is)
    (case y4 => first | rfl | kit_is | decide +kernel)
    (case yv => first | rfl | kit_is | decide +kernel)
    (case yc => first | rfl | kit_is | decide +kernel)
